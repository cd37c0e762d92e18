// Package mend: the cheapest script that makes of a row one that a grammar has.
package mend

import (
	"darn/api"
	"darn/table"
	"darn/tree"
)

// Mend mends a row of tokens. ErrMany: what it makes of the row has a tree that no memory holds.
func Mend(t *table.Table, row []int) (api.Mended, api.Errno) {
	m := mending{walk: tree.Begin(t), Table: t, row: row}
	for _, e := range cheapest(t, row) {
		m.do(e)
	}
	m.keepTo(len(row))
	nodes, _, err := tree.Read(t, m.made)
	if err != api.OK {
		return api.Mended{}, err
	}
	m.told.Tree = nodes
	return m.told, api.OK
}

// mending: a script on its way through a row.
type mending struct {
	*table.Table
	row  []int
	at   int        // how far the row has been gone through
	made []int      // what the script has made of it
	walk *tree.Walk // of what was made
	told api.Mended
}

func (m *mending) do(e edit) {
	m.keepTo(e.at)
	m.told.Edits = append(m.told.Edits, api.Edit{At: e.at, Kind: e.kind, Old: m.Word(e.old), New: m.Word(e.new)})
	m.told.Costs = append(m.told.Costs, e.cost)
	m.told.Cost += e.cost
	m.told.Expected = append(m.told.Expected, m.walk.Expected())
	if e.kind != api.Drop {
		m.take(e.new)
	}
	if e.kind != api.Put {
		m.at++
	}
}

// keepTo keeps the tokens ahead of a place that have not been gone by.
func (m *mending) keepTo(at int) {
	for ; m.at < at; m.at++ {
		m.take(m.row[m.at])
	}
}

func (m *mending) take(token int) {
	m.made = append(m.made, token)
	m.told.Row = append(m.told.Row, m.Word(token))
	m.walk.Take(token)
}
