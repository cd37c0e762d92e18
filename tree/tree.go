// Package tree: what a grammar's table makes of a row: its tree, or the place where it stops being a row of the grammar.
package tree

import (
	"slices"

	"darn/api"
	"darn/source"
	"darn/table"
)

const (
	noFault = -1 // the place of a fault, if there is none
	noRule  = -1 // the rule of a token
)

// Read gives the tree of a row of tokens, if the grammar has it, else the place of the first token with which no row goes on that it has. ErrMany: of a tree that no memory holds.
func Read(t *table.Table, row []int) ([]api.Node, int, api.Errno) {
	ended := append(slices.Clone(row), t.End())
	w := Begin(t)
	for at, token := range ended {
		if !w.Take(token) {
			return nil, at, api.OK
		}
	}
	if w.nodes > table.MaxNodes {
		return nil, 0, api.ErrMany
	}
	b := builder{t, ended, make([]api.Node, 0, w.nodes)}
	b.add(t.Start())
	return b.nodes, noFault, api.OK
}

// builder builds the tree of a row that the grammar has.
type builder struct {
	*table.Table
	row   []int // what is still to be read, with the END
	nodes []api.Node
}

// add adds the tree of a part, which begins where the row stands.
func (b *builder) add(part source.Part) {
	at := len(b.nodes)
	b.nodes = append(b.nodes, api.Node{Name: b.Spelt(part), Rule: noRule})
	if part.IsName {
		parts, rule := b.Rule(part.Number, b.row[0])
		b.nodes[at].Rule = rule
		for _, p := range parts {
			b.add(p)
		}
	} else {
		b.row = b.row[1:]
	}
	b.nodes[at].Size = len(b.nodes) - at
}
