package darn_test

import (
	"fmt"
	"slices"
	"strings"
	"testing"

	"darn/api"
	"darn/darn"
)

func compiled(t *testing.T, text string) *darn.Parser {
	t.Helper()
	p, err := darn.Compile(text)
	if err != api.OK {
		t.Fatalf("Compile(%q): %d", text, err)
	}
	return p
}

// spelt spells a tree.
func spelt(tree []api.Node) string {
	var l []string
	for _, n := range tree {
		l = append(l, fmt.Sprintf("(%s %d %d)", n.Name, n.Rule, n.Size))
	}
	return strings.Join(l, " ")
}

func wantTree(t *testing.T, p *darn.Parser, row, want string) {
	t.Helper()
	tree, at, err := p.Read(strings.Fields(row))
	if got := spelt(tree); err != api.OK || at != -1 || got != want {
		t.Errorf("Read(%.90q) = %.900s, %d, %d, want %.900s, -1", row, got, at, err, want)
	}
}

func wantFault(t *testing.T, p *darn.Parser, row string, want int) {
	t.Helper()
	tree, at, err := p.Read(strings.Fields(row))
	if err != api.OK || at != want || len(tree) > 0 {
		t.Errorf("Read(%.90q) = %d nodes, %d, %d, want no tree, %d", row, len(tree), at, err, want)
	}
}

func wantReadError(t *testing.T, p *darn.Parser, row []string, want api.Errno) {
	t.Helper()
	if tree, at, err := p.Read(row); err != want || at != 0 || len(tree) > 0 {
		t.Errorf("Read(%.90q) = %d nodes, %d, %d, want nothing, 0, %d", row, len(tree), at, err, want)
	}
}

// times gives a word n times.
func times(n int, word string) string { return strings.Repeat(word+" ", n) }

// TestReadExamples: the document's row on Read.
func TestReadExamples(t *testing.T) {
	p := compiled(t, small)
	wantTree(t, p, "a a b b", "(S 0 7) (a -1 1) (S 0 4) (a -1 1) (S 1 1) (b -1 1) (b -1 1)")
	wantTree(t, p, "", "(S 1 1)")
	wantFault(t, p, "a b b", 2)
	wantFault(t, p, "a", 1)
	wantFault(t, p, "b", 0)
	wantReadError(t, p, []string{"c"}, api.ErrRow)
}

const (
	four = "token a 1 1\ntoken b 2 3\ntoken c 4 1\ntoken d 1 9\n"
	list = "rule L = E M |\nrule M = c E M |\nrule E = a L b | d\n"
	runs = "rule S = A B c\nrule A = a A |\nrule B = b B |\n"
)

func TestReadTrees(t *testing.T) {
	for _, c := range []struct{ rules, row, want string }{
		{"rule S =\n", "", "(S 0 1)"},
		{"rule S = a\n", "a", "(S 0 2) (a -1 1)"},
		{"rule S = | a\n", "", "(S 0 1)"},
		{"rule S = | a | b a\n", "b a", "(S 2 3) (b -1 1) (a -1 1)"},
		{"rule S = A\nrule A = B\nrule B = a\n", "a", "(S 0 4) (A 0 3) (B 0 2) (a -1 1)"},
		{"rule S = A A A\nrule A = B\nrule B =\n", "", "(S 0 7) (A 0 2) (B 0 1) (A 0 2) (B 0 1) (A 0 2) (B 0 1)"},
		{"rule S = a A a | b A b\nrule A = c |\n", "b b", "(S 1 4) (b -1 1) (A 1 1) (b -1 1)"},
		{"rule S = B S | d\nrule B = a\n", "a a d", "(S 0 8) (B 0 2) (a -1 1) (S 0 5) (B 0 2) (a -1 1) (S 1 2) (d -1 1)"},
		{"rule S = A\nrule A = B | a\nrule B = b S |\n", "b a", "(S 0 7) (A 0 6) (B 0 5) (b -1 1) (S 0 3) (A 1 2) (a -1 1)"},
		{"rule S = A B\nrule A = a |\nrule B = b |\n", "b", "(S 0 4) (A 1 1) (B 0 2) (b -1 1)"},
		{runs, "c", "(S 0 4) (A 1 1) (B 1 1) (c -1 1)"},
		{runs, "a b c", "(S 0 8) (A 0 3) (a -1 1) (A 1 1) (B 0 3) (b -1 1) (B 1 1) (c -1 1)"},
		{list, "", "(L 1 1)"},
		{list, "d c d", "(L 0 8) (E 1 2) (d -1 1) (M 0 5) (c -1 1) (E 1 2) (d -1 1) (M 1 1)"},
		{list, "a a b b", "(L 0 11) (E 0 9) (a -1 1) (L 0 6) (E 0 4) (a -1 1) (L 1 1) (b -1 1) (M 1 1) (b -1 1) (M 1 1)"},
	} {
		wantTree(t, compiled(t, four+c.rules), c.row, c.want)
	}
	wantTree(t, compiled(t, "token token 1 1\nrule RULE = token\n"), "token", "(RULE 0 2) (token -1 1)")
}

// TestReadFaults: the first token with which no row goes on; the row's length, if each one does.
func TestReadFaults(t *testing.T) {
	for _, c := range []struct {
		rules, row string
		at         int
	}{
		{"rule S =\n", "a", 0},
		{"rule S =\n", "d d d", 0},
		{"rule S = a\n", "", 0},
		{"rule S = a\n", "a a", 1},
		{"rule S = a b\n", "a", 1},
		{"rule S = a b\n", "a a b", 1},
		{"rule S = a b | b a\n", "b b", 1},
		{"rule S = a S b |\n", "a b a", 2},
		{"rule S = a S b |\n", "a a a b", 4},
		{runs, "", 0},
		{runs, "b a c", 1},
		{runs, "a b", 2},
		{runs, "a c c", 2},
		{list, "c", 0},
		{list, "a d", 2},
		{list, "d b", 1},
		{list, "a d c b", 3},
		// What follows a name somewhere does not follow it everywhere.
		{"rule S = a A a | b A b\nrule A = c |\n", "a b", 1},
		{"rule S = a A a | b A b\nrule A = c |\n", "b c a", 2},
		{"rule S = a A c | b A d\nrule A = B B\nrule B = C\nrule C =\n", "b c", 1},
		{"rule S = A b | c A d\nrule A = a |\n", "d", 0},
	} {
		wantFault(t, compiled(t, four+c.rules), c.row, c.at)
	}
}

// TestReadAtLimits: a row of as many tokens as there may be, and a grammar of as many names, rules and tokens.
func TestReadAtLimits(t *testing.T) {
	p := compiled(t, small)
	half := api.MaxRow / 2
	tree, at, err := p.Read(strings.Fields(times(half, "a") + times(half, "b")))
	if len(tree) != 3*half+1 || at != -1 || err != api.OK {
		t.Errorf("%d nodes, %d, %d, want %d, -1, 0", len(tree), at, err, 3*half+1)
	}
	wantFault(t, p, times(api.MaxRow, "a"), api.MaxRow)
	wantFault(t, p, times(api.MaxRow-1, "a")+"b", api.MaxRow)
	wantFault(t, p, times(half-1, "a")+times(half+1, "b"), api.MaxRow-2)
	var down strings.Builder
	for i := range api.MaxNames - 1 {
		fmt.Fprintf(&down, "rule %c = %c\n", 'A'+i, 'B'+i)
	}
	tree, at, err = compiled(t, "token a 1 1\n"+down.String()+"rule T = a A |\n").Read(strings.Fields(times(api.MaxRow, "a")))
	if want := api.MaxRow + (api.MaxRow+1)*api.MaxNames; len(tree) != want || at != -1 || err != api.OK {
		t.Errorf("%d nodes, %d, %d, want %d, -1, 0", len(tree), at, err, want)
	}
	all := strings.Split("abcdefghijklmnopqrst", "")
	p = compiled(t, named(api.MaxTokens, "token ", 'a', " 1 1")+"rule S = "+strings.Join(all, " | ")+" |\n")
	for i, token := range all {
		wantTree(t, p, token, fmt.Sprintf("(S %d 2) (%s -1 1)", i, token))
	}
	wantTree(t, p, "", "(S 20 1)")
}

// TestReadErrRow: ErrRow whether or not the row goes wrong ahead of what is none of the grammar's.
func TestReadErrRow(t *testing.T) {
	p := compiled(t, "token a 1 1\ntoken ab 1 1\nrule S = a S | ab\n")
	for _, row := range [][]string{
		{"b"}, {""}, {"S"}, {"A"}, {" "}, {"a "}, {"a ab"}, {"|"}, {"END"}, {"\xff"}, {"aa"}, {"abc"}, {"a\x00"},
		{"a", "a", ""}, {"", "a"}, {"ab", "ab", "b"}, {"a", "S"},
		strings.Fields(times(api.MaxRow+1, "a")),
		strings.Fields(times(api.MaxRow, "a") + "ab"),
		strings.Fields(times(api.MaxRow+1, "b")),
		append(strings.Fields(times(api.MaxRow-1, "a")), "b"),
		make([]string, api.MaxRow+1),
		make([]string, 1<<20),
	} {
		wantReadError(t, p, row, api.ErrRow)
		if _, err := p.Mend(row); err != api.ErrRow {
			t.Errorf("Mend(%.90q): %d, want %d", row, err, api.ErrRow)
		}
	}
	wantFault(t, p, "ab ab", 1)
	wantFault(t, p, times(api.MaxRow, "a"), api.MaxRow)
}

// TestErrClosed: ahead of all that may be wrong with the row.
func TestErrClosed(t *testing.T) {
	for _, p := range []*darn.Parser{nil, {}, new(darn.Parser)} {
		for _, row := range rows {
			wantReadError(t, p, row, api.ErrClosed)
			m, err := p.Mend(row)
			if err != api.ErrClosed || len(m.Edits)+len(m.Costs)+m.Cost+len(m.Row)+len(m.Tree)+len(m.Expected) > 0 {
				t.Errorf("Mend(%.90q) = %v, %d, want nothing, %d", row, m, err, api.ErrClosed)
			}
		}
	}
}

// empties gives names of which each has the next so many times, the last one nothing.
func empties(names, times int) string {
	var l []string
	for i := range names - 1 {
		l = append(l, fmt.Sprintf("rule %c =%s", 'A'+i, strings.Repeat(" "+string(rune('B'+i)), times)))
	}
	return lines(append(l, fmt.Sprintf("rule %c =", 'A'+names-1))...)
}

// grown gives a grammar whose only row, the empty one, has a tree of 38347923 nodes: below the start, which has the next name twice, each name has the next one eight times.
func grown() string {
	return "rule START = A A\n" + empties(9, api.MaxParts)
}

// isGrown tells whether a list is that tree.
func isGrown(tree []api.Node) bool {
	if len(tree) != 38347923 || tree[0] != (api.Node{Name: "START", Size: len(tree)}) {
		return false
	}
	sizes := map[string]int{"J": 0}
	for name := 'I'; name >= 'A'; name-- {
		sizes[string(name)] = 1 + api.MaxParts*sizes[string(name+1)]
	}
	open := []string{"A", "A"} // what is still to come, the next one last
	for _, node := range tree[1:] {
		last := len(open) - 1
		name := open[last]
		if node.Name != name || node.Rule != 0 || node.Size != sizes[name] {
			return false
		}
		open = open[:last]
		for range min(api.MaxParts, node.Size-1) {
			open = append(open, string(name[0]+1))
		}
	}
	return len(open) == 0
}

// TestReadGrownTree: a tree may have as many nodes as memory holds.
func TestReadGrownTree(t *testing.T) {
	tree, at, err := compiled(t, grown()).Read(nil)
	if at != -1 || err != api.OK || !isGrown(tree) || cap(tree) != len(tree) {
		t.Errorf("%d nodes, %d, %d, want 38347923 nodes, -1, 0", len(tree), at, err)
	}
}

// TestReadGreatTrees (P1): a tree of a million nodes is built; one that no memory holds ends the call with an error, but hides no fault of a row.
func TestReadGreatTrees(t *testing.T) {
	tree, at, err := compiled(t, empties(api.MaxNames, 2)).Read(nil)
	if at != -1 || err != api.OK || len(tree) != 1<<api.MaxNames-1 {
		t.Fatalf("%d nodes, %d, %d, want %d, -1, 0", len(tree), at, err, 1<<api.MaxNames-1)
	}
	for i := 0; i < api.MaxNames-1; i++ {
		want := api.Node{Name: string(rune('A' + i)), Rule: 0, Size: 1<<(api.MaxNames-i) - 1}
		if tree[i] != want {
			t.Errorf("the node %d is %v, want %v", i, tree[i], want)
		}
	}
	for times := 4; times <= api.MaxParts; times++ {
		wantReadError(t, compiled(t, empties(api.MaxNames, times)), nil, api.ErrMany)
	}
	wantReadError(t, compiled(t, empties(12, api.MaxParts)), nil, api.ErrMany)
	p := compiled(t, four+"rule START = a A c | b A d START\n"+empties(api.MaxNames-1, api.MaxParts))
	wantReadError(t, p, strings.Fields("a c"), api.ErrMany)
	wantReadError(t, p, strings.Fields(times(19, "b d")+"a c"), api.ErrMany)
	wantReadError(t, p, []string{"a", "x"}, api.ErrRow)
	wantFault(t, p, "a d", 1)
	wantFault(t, p, "b", 1)
	wantFault(t, p, "a c c", 2)
	wantFault(t, p, times(20, "b d"), 40)
}

// TestReadIsNew (P2): what is done to a tree or to the row changes no other tree.
func TestReadIsNew(t *testing.T) {
	p := compiled(t, small)
	row := strings.Fields("a a b b")
	first, _, _ := p.Read(row)
	want := spelt(first)
	second, _, _ := p.Read(row)
	for i := range second[:cap(second)] {
		second[:cap(second)][i] = api.Node{Name: "z", Rule: 7, Size: 7}
	}
	for i := range row {
		row[i] = "z"
	}
	if spelt(first) != want {
		t.Errorf("an earlier tree became %s, was %s", spelt(first), want)
	}
	wantTree(t, p, "a a b b", want)
}

// TestReadAnyRow holds rows of any grammar, all the short ones and some long ones, against what the document says of them.
func TestReadAnyRow(t *testing.T) {
	var n numbers = 7
	good, bad := 0, 0
	for range 20000 {
		text := n.anyGrammar()
		p, err := darn.Compile(text)
		if err != api.OK {
			continue
		}
		g := plainRead(text)
		for _, row := range n.anyRows(g) {
			tree, at, err := p.Read(row)
			want := g.faultOf(row)
			if err != api.OK || at != want || want >= 0 && len(tree) > 0 || want < 0 && !g.isTree(tree, row) {
				t.Fatalf("%q: Read(%v) = %.900s, %d, %d, want %d", text, row, spelt(tree), at, err, want)
			}
			if want < 0 {
				good++
			} else {
				bad++
			}
		}
	}
	if good < 5000 || bad < 5000 {
		t.Errorf("only %d rows that the grammar has, %d others", good, bad)
	}
}

// anyRows gives all rows of at most three tokens, some that the grammar has, and these with a token put in, left out or changed.
func (n *numbers) anyRows(g *plain) [][]string {
	rows := [][]string{nil}
	for i := 0; len(rows[i]) < 3; i++ {
		for _, token := range g.tokens {
			rows = append(rows, append(slices.Clone(rows[i]), token))
		}
	}
	for range 10 {
		row := n.derived(g)
		if len(row) > api.MaxRow-1 {
			continue
		}
		at := n.below(len(row) + 1)
		to := min(at+n.below(2), len(row))
		rows = append(rows, row, slices.Concat(row[:at], []string{n.of(g.tokens...)}, row[to:]), slices.Concat(row[:at], row[to:]))
	}
	return rows
}

// derived gives a row that the grammar has: some rule for each name, then the cheapest ones, because any others may never end.
func (n *numbers) derived(g *plain) []string {
	list := []string{g.names[0]}
	free := n.below(12)
	for at := 0; at < len(list); {
		rules := g.rules[list[at]]
		if rules == nil {
			at++
			continue
		}
		rule := slices.MinFunc(rules, func(a, b []string) int { return int(g.least(a) - g.least(b)) })
		if free > 0 {
			rule = rules[n.below(len(rules))]
			free--
		}
		list = slices.Concat(list[:at], rule, list[at+1:])
	}
	return list
}
