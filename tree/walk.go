package tree

import (
	"slices"

	"darn/source"
	"darn/table"
)

// walk: how far a row has been followed.
type walk struct {
	*table.Table
	rest  []source.Part // what the row must still have, the next part last
	nodes int           // of the tree, as far as it is known
}

func begun(t *table.Table) *walk {
	return &walk{Table: t, rest: []source.Part{t.Start()}}
}

// take goes past a token (or the END), if a row that the grammar has may go on with it.
func (w *walk) take(token int) bool {
	for len(w.rest) > 0 {
		last := len(w.rest) - 1
		part := w.rest[last]
		w.rest = w.rest[:last]
		if !part.IsName {
			w.count(1)
			return part.Number == token
		}
		if !w.open(part.Number, token) {
			return false
		}
	}
	return token == w.End()
}

// open puts a name's rule in its place, if it can begin with the token, and leaves the name out, if it can be empty: in one step, because the tree of an empty name may have any number of nodes.
func (w *walk) open(name, token int) bool {
	if w.Begins(name, token) {
		parts, _ := w.Rule(name, token)
		for _, p := range slices.Backward(parts) {
			w.rest = append(w.rest, p)
		}
		w.count(1)
		return true
	}
	empty := w.EmptyNodes(name)
	w.count(empty)
	return empty > 0
}

func (w *walk) count(more int) { w.nodes = table.AddNodes(w.nodes, more) }
