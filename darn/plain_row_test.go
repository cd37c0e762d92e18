package darn_test

import (
	"darn/api"
)

// plainRow: which pieces of a row the names derive, found the slow way.
type plainRow struct {
	*plain
	row   []string
	loose bool                // what would stand behind the row's end may be anything
	ends  map[string][]uint64 // by name and place: a bit for each place where a piece may end that begins there
}

// longest: of a row of which the pieces are found.
const longest = 63

// pieces goes on until there is none more to be found.
func (g *plain) pieces(row []string, loose bool) *plainRow {
	if len(row) > longest {
		panic("the row has more places than there are bits")
	}
	r := &plainRow{g, row, loose, map[string][]uint64{}}
	for _, n := range g.names {
		r.ends[n] = make([]uint64, len(row)+1)
	}
	for r.grow() {
	}
	return r
}

// grow puts all rules once in their names' places, and tells whether that found a piece more.
func (r *plainRow) grow() (more bool) {
	for _, n := range r.names {
		for from, before := range r.ends[n] {
			for _, rule := range r.rules[n] {
				r.ends[n][from] |= r.endsOf(rule, from)
			}
			more = more || r.ends[n][from] != before
		}
	}
	return more
}

func (r *plainRow) endsOf(parts []string, from int) uint64 {
	places := uint64(1) << from
	for _, part := range parts {
		next := uint64(0)
		for at := range len(r.row) + 1 {
			if places&(1<<at) != 0 {
				next |= r.endsOfPart(part, at)
			}
		}
		places = next
	}
	return places
}

func (r *plainRow) endsOfPart(part string, from int) uint64 {
	behind := uint64(1) << from
	switch {
	case r.loose && from == len(r.row):
		return behind
	case r.rules[part] != nil:
		return r.ends[part][from]
	case from < len(r.row) && r.row[from] == part:
		return behind << 1
	}
	return 0
}

// whole tells whether the start derives the row.
func (r *plainRow) whole() bool { return r.ends[r.names[0]][0]&(1<<len(r.row)) != 0 }

// faultOf is what Read tells beside the tree: -1 of a row that the grammar has. No name of the grammar is barren.
func (g *plain) faultOf(row []string) int {
	if g.pieces(row, false).whole() {
		return -1
	}
	for at := range row {
		if !g.pieces(row[:at+1], true).whole() {
			return at
		}
	}
	return len(row)
}

// isTree tells whether a list is a tree of the row by the document's words.
func (g *plain) isTree(tree []api.Node, row []string) bool {
	tree, row, ok := g.withoutPart(g.names[0], tree, row)
	return ok && len(tree) == 0 && len(row) == 0
}

// withoutPart gives what stands behind the tree of a part and behind its tokens.
func (g *plain) withoutPart(part string, tree []api.Node, row []string) ([]api.Node, []string, bool) {
	if len(tree) == 0 || tree[0].Name != part {
		return nil, nil, false
	}
	top, rest, ok := tree[0], tree[1:], true
	if g.rules[part] == nil {
		ok = len(row) > 0 && row[0] == part && top.Rule == -1 && top.Size == 1
		return rest, row[min(1, len(row)):], ok
	}
	if top.Rule < 0 || top.Rule >= len(g.rules[part]) {
		return nil, nil, false
	}
	for _, p := range g.rules[part][top.Rule] {
		if rest, row, ok = g.withoutPart(p, rest, row); !ok {
			return nil, nil, false
		}
	}
	return rest, row, top.Size == len(tree)-len(rest)
}
