package tree

import (
	"slices"

	"darn/facts"
	"darn/source"
	"darn/table"
)

// Walk: how far a row has been followed.
type Walk struct {
	*table.Table
	rest  []source.Part // what the row must still have, the next part last
	nodes int           // of the tree, as far as it is known
}

// Begin follows no token yet.
func Begin(t *table.Table) *Walk {
	return &Walk{Table: t, rest: []source.Part{t.Start()}}
}

// Take goes past a token (or the END), if a row that the grammar has may go on with it.
func (w *Walk) Take(token int) bool {
	for len(w.rest) > 0 {
		last := len(w.rest) - 1
		part := w.rest[last]
		w.rest = w.rest[:last]
		if !part.IsName {
			w.count(1)
			return part.Number == token
		}
		if !w.open(part.Number, token) {
			return false
		}
	}
	return token == w.End()
}

// Expected are the tokens with which a row that the grammar has may go on.
func (w *Walk) Expected() []string {
	var next facts.Set
	for _, part := range slices.Backward(w.rest) {
		first, empty := w.First(part)
		next |= first
		if !empty {
			break
		}
	}
	return w.Words(next)
}

// open puts a name's rule in its place, if it can begin with the token, and leaves the name out, if it can be empty: in one step, because the tree of an empty name may have any number of nodes.
func (w *Walk) open(name, token int) bool {
	if w.Begins(name, token) {
		parts, _ := w.Rule(name, token)
		for _, p := range slices.Backward(parts) {
			w.rest = append(w.rest, p)
		}
		w.count(1)
		return true
	}
	empty := w.EmptyNodes(name)
	w.count(empty)
	return empty > 0
}

func (w *Walk) count(more int) { w.nodes = table.AddNodes(w.nodes, more) }
