package mend

import (
	"slices"

	"darn/api"
	"darn/source"
	"darn/table"
)

// edit: something that is done to a row, with its tokens by number: the END, where there is none.
type edit struct {
	at, kind, old, new, cost int
}

// script: what is done to a row, in the order in which it is told.
type script struct {
	*weights
	edits []edit
}

// cheapest gives a script than which none costs less. Of those that cost as much, and make as small a tree, it takes the first way that it comes to.
func cheapest(t *table.Table, row []int) []edit {
	s := script{weights: weigh(t, row)}
	end := s.cheapestEnd()
	s.addPart(t.Start(), 0, end)
	s.addDrops(end, len(row))
	return s.edits
}

// cheapestEnd is the place behind which all of the row is left out.
func (s *script) cheapestEnd() int {
	least, end := weight{cost: never}, 0
	for at := range len(s.row) + 1 {
		if least.lower(s.ofPart(s.Start(), 0, at).plus(weight{cost: s.dropCost(at, len(s.row))})) {
			end = at
		}
	}
	return end
}

func (s *script) addPart(p source.Part, from, to int) {
	switch {
	case p.IsName:
		s.addName(p.Number, from, to)
	case from == to:
		s.edits = append(s.edits, edit{from, api.Put, s.End(), p.Number, s.Tokens[p.Number].Put})
	default:
		s.addDrops(from, to-1)
		s.addSwap(to-1, p.Number)
	}
}

// addName comes to an end: a name that has itself in the same piece at the same cost would begin with itself, so there would be a clash.
func (s *script) addName(name, from, to int) {
	p := s.pieces[from][to]
	rule := slices.IndexFunc(s.heads[name], func(head int) bool { return named(p.tails[head]) == p.names[name] })
	s.addTail(s.heads[name][rule], from, to)
}

// addTail goes by what costs nothing, because a tree without edits may have any number of nodes.
func (s *script) addTail(i, from, to int) {
	least := s.pieces[from][to].tails[i]
	if least.cost == 0 {
		return
	}
	at := from
	for s.split(i, from, at, to) != least {
		at++
	}
	s.addPart(s.tails[i].part, from, at)
	s.addTail(i+1, at, to)
}

func (s *script) addDrops(from, to int) {
	for at := from; at < to; at++ {
		s.edits = append(s.edits, edit{at, api.Drop, s.row[at], s.End(), s.dropCost(at, at+1)})
	}
}

// addSwap adds nothing for a token that stays as it is.
func (s *script) addSwap(at, to int) {
	if cost := s.keepCost(s.row[at], to); cost > 0 {
		s.edits = append(s.edits, edit{at, api.Swap, s.row[at], to, cost})
	}
}
