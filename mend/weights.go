package mend

import (
	"slices"

	"darn/source"
	"darn/table"
)

// weight: what it costs to make something of a piece of the row, and how many nodes the tree of that has. The nodes count where the costs are the same, because a row whose tree no memory holds must not be taken where another one will do.
type weight struct {
	cost, nodes int
}

// never: more than any script costs, and so much less than what an int holds that some of them can be added.
const never = 1 << 20

func (w weight) plus(more weight) weight {
	return weight{w.cost + more.cost, table.AddNodes(w.nodes, more.nodes)}
}

// lower takes another weight, if that is less, and tells whether it is.
func (w *weight) lower(other weight) bool {
	less := other.cost < w.cost || other.cost == w.cost && other.nodes < w.nodes
	if less {
		*w = other
	}
	return less
}

// weights: the least weights by which a piece of the row is made one that a name or a tail derives. What is left out goes with the next token of the piece that is not, so the last token of a piece stays or is changed, and what is put in makes an empty piece.
type weights struct {
	*table.Table
	row     []int
	dropped []int     // by place: what leaving out all tokens ahead of it costs
	tails   []tail    // of all rules
	heads   [][]int   // by name: where its rules begin in the tails
	pieces  [][]piece // by the places where a piece begins and ends
}

// tail: what is left of a rule behind some of its parts. The tail that is one part shorter is the next one.
type tail struct {
	ends bool // no part is left
	part source.Part
}

// piece: the weights of a piece of the row by name and by tail.
type piece struct {
	names, tails []weight
}

// weigh goes from the row's end to its beginning, from short pieces to long ones, because a piece weighs what its own pieces do.
func weigh(t *table.Table, row []int) *weights {
	w := &weights{Table: t, row: row, dropped: []int{0}}
	for at, token := range row {
		w.dropped = append(w.dropped, w.dropped[at]+w.Tokens[token].Drop)
	}
	w.cutRules()
	w.pieces = make([][]piece, len(row)+1)
	for from := range slices.Backward(w.pieces) {
		w.pieces[from] = make([]piece, len(row)+1)
		for to := from; to <= len(row); to++ {
			w.weighPiece(from, to)
		}
	}
	return w
}

func (w *weights) cutRules() {
	w.heads = make([][]int, len(w.Names))
	for n, parts := range w.Rules() {
		w.heads[n] = append(w.heads[n], len(w.tails))
		for _, p := range parts {
			w.tails = append(w.tails, tail{part: p})
		}
		w.tails = append(w.tails, tail{ends: true})
	}
}

// weighPiece goes in rounds, because a name can make all of a piece out of another one by what it puts in.
func (w *weights) weighPiece(from, to int) {
	unknown := []weight{{cost: never}}
	p := piece{slices.Repeat(unknown, len(w.Names)), slices.Repeat(unknown, len(w.tails))}
	w.pieces[from][to] = p
	for i := range w.tails {
		w.cut(i, from, to)
	}
	for w.round(p, from, to) {
	}
}

// cut takes the ways in which a tail ends, or neither its first part nor the rest has all of the piece: what they weigh is known.
func (w *weights) cut(i, from, to int) {
	least := &w.pieces[from][to].tails[i]
	if w.tails[i].ends {
		if from == to {
			*least = weight{}
		}
		return
	}
	for at := from + 1; at < to; at++ {
		least.lower(w.split(i, from, at, to))
	}
}

// round takes each other way once, and tells whether a name weighs less by that.
func (w *weights) round(p piece, from, to int) (lowered bool) {
	for i, t := range slices.Backward(w.tails) {
		if !t.ends {
			p.tails[i].lower(w.split(i, from, from, to))
			p.tails[i].lower(w.split(i, from, to, to))
		}
	}
	for n, heads := range w.heads {
		for _, head := range heads {
			if p.names[n].lower(named(p.tails[head])) {
				lowered = true
			}
		}
	}
	return lowered
}

// named is the weight of a name of which a rule weighs so much.
func named(rule weight) weight { return rule.plus(weight{nodes: 1}) }

// split is what a tail weighs if its first part has the piece up to a place, and the rest what is behind.
func (w *weights) split(i, from, at, to int) weight {
	return w.ofPart(w.tails[i].part, from, at).plus(w.pieces[at][to].tails[i+1])
}

func (w *weights) ofPart(p source.Part, from, to int) weight {
	switch {
	case p.IsName:
		return w.pieces[from][to].names[p.Number]
	case from == to:
		return weight{w.Tokens[p.Number].Put, 1}
	}
	return weight{w.dropCost(from, to-1) + w.keepCost(w.row[to-1], p.Number), 1}
}

func (w *weights) dropCost(from, to int) int { return w.dropped[to] - w.dropped[from] }

// keepCost is what a token of the row costs to be the one that is asked for.
func (w *weights) keepCost(token, asked int) int {
	if token == asked {
		return 0
	}
	if cost, ok := w.SwapCost(token, asked); ok {
		return cost
	}
	return never
}
