package darn_test

import (
	"fmt"
	"slices"
	"strings"
	"testing"

	"darn/api"
	"darn/darn"
)

// mended spells what Mend answers: of each edit what it is, what it costs and, in brackets, what was expected; the sum and the row.
func mended(m api.Mended) string {
	var b strings.Builder
	for i, e := range m.Edits {
		switch e.Kind {
		case api.Put:
			fmt.Fprintf(&b, "put %d %q%s", e.At, e.Old, e.New)
		case api.Drop:
			fmt.Fprintf(&b, "drop %d %s%q", e.At, e.Old, e.New)
		case api.Swap:
			fmt.Fprintf(&b, "swap %d %s %s", e.At, e.Old, e.New)
		}
		fmt.Fprintf(&b, " %d %v; ", m.Costs[i], m.Expected[i])
	}
	return strings.ReplaceAll(fmt.Sprint(b.String(), m.Cost, " ", m.Row), `""`, "")
}

// wantMended asks for the one script that costs least, and for the tree that Read gives of the row.
func wantMended(t *testing.T, text, row, want string) {
	t.Helper()
	wantMendedBy(t, compiled(t, text), text, row, want)
}

// wantMendedBy asks the same of a Parser that has been made of the text.
func wantMendedBy(t *testing.T, p *darn.Parser, text, row, want string) {
	t.Helper()
	m, err := p.Mend(strings.Fields(row))
	if got := mended(m); err != api.OK || got != want {
		t.Errorf("%q: Mend(%s) = %s, %d, want %s", text, row, got, err, want)
	}
	if len(m.Row) <= api.MaxRow {
		wantTree(t, p, strings.Join(m.Row, " "), spelt(m.Tree))
	}
}

// wantCost asks for a script that costs so much, where there are several.
func wantCost(t *testing.T, text, row string, cost int) {
	t.Helper()
	m, err := compiled(t, text).Mend(strings.Fields(row))
	if err != api.OK || m.Cost != cost {
		t.Errorf("%q: Mend(%s) = %.900s, %d, want the cost %d", text, row, mended(m), err, cost)
	}
	if wrong := plainRead(text).mend().wrong(strings.Fields(row), m); wrong != "" {
		t.Errorf("%q: Mend(%s) = %.900s: %s", text, row, mended(m), wrong)
	}
}

// TestMendExamples: the document's row on Mend.
func TestMendExamples(t *testing.T) {
	wantMended(t, small, "a", "drop 0 a 1 [a]; 1 []")
	wantCost(t, small, "a a b", 1)
	m, _ := compiled(t, small).Mend(strings.Fields("a a b"))
	if len(m.Edits) != 1 || m.Edits[0].Kind != api.Drop || m.Edits[0].Old != "a" || spelt(m.Tree) != "(S 0 4) (a -1 1) (S 1 1) (b -1 1)" {
		t.Errorf("Mend(a a b) = %s, %s, want one a left out", mended(m), spelt(m.Tree))
	}
	swap := small + "swap b a 1\n"
	wantMended(t, swap, "b b", "swap 0 b a 1 [a]; 1 [a b]")
	wantMended(t, swap, "b b b b", "swap 0 b a 1 [a]; swap 1 b a 1 [a b]; 2 [a a b b]")
}

// TestMendNothing: a row that the grammar has, the empty one too, has no edits.
func TestMendNothing(t *testing.T) {
	for _, c := range []struct{ rules, row string }{
		{"rule S =\n", ""},
		{"rule S = a S b |\n", ""},
		{"rule S = a S b |\n", "a a b b"},
		{"swap a b 1\nswap b a 1\nrule S = a S b |\n", "a b"},
		{runs, "a a b c"},
		{list, "a a d b c d b"},
		{list, times(19, "d c") + "d"},
		{"rule S = a S |\n", times(api.MaxRow, "a")},
		{"rule S = A A A\nrule A = B B B\nrule B =\n", ""},
	} {
		row := strings.Fields(c.row)
		wantMended(t, four+c.rules, c.row, fmt.Sprint("0 ", row))
		m, _ := compiled(t, four+c.rules).Mend(row)
		if len(m.Edits)+len(m.Costs)+len(m.Expected) > 0 {
			t.Errorf("%q: Mend(%s) = %s", c.rules, c.row, mended(m))
		}
	}
}

// TestMendPuts: several at one place, ahead of other edits, and behind the last token.
func TestMendPuts(t *testing.T) {
	for _, c := range []struct{ rules, row, want string }{
		{"rule S = a a a\n", "", "put 0 a 1 [a]; put 0 a 1 [a]; put 0 a 1 [a]; 3 [a a a]"},
		{"rule S = a b c d\n", "", "put 0 a 1 [a]; put 0 b 2 [b]; put 0 c 4 [c]; put 0 d 1 [d]; 8 [a b c d]"},
		{"rule S = a b c d\n", "d", "put 0 a 1 [a]; put 0 b 2 [b]; put 0 c 4 [c]; 7 [a b c d]"},
		{"rule S = a b c d\n", "b c", "put 0 a 1 [a]; put 2 d 1 [d]; 2 [a b c d]"},
		{"rule S = a b c d\n", "b", "put 0 a 1 [a]; put 1 c 4 [c]; put 1 d 1 [d]; 6 [a b c d]"},
		{"rule S = a b c d\n", "a d", "put 1 b 2 [b]; put 1 c 4 [c]; 6 [a b c d]"},
		{"rule S = a b c d\n", "a b c", "put 3 d 1 [d]; 1 [a b c d]"},
		{"rule S = A b A c A d\nrule A = a |\n", "b c", "put 2 d 1 [a d]; 1 [b c d]"},
		{"swap c b 1\nrule S = a b d\n", "c d", "put 0 a 1 [a]; swap 0 c b 1 [b]; 2 [a b d]"},
		{"swap c b 1\nrule S = a a b d\n", "c", "put 0 a 1 [a]; put 0 a 1 [a]; swap 0 c b 1 [b]; put 1 d 1 [d]; 4 [a a b d]"},
		{list, "d d", "put 1 c 4 [c]; 4 [d c d]"},
		{list, "d b", "put 0 a 1 [a d]; 1 [a d b]"},
	} {
		wantMended(t, four+c.rules, c.row, c.want)
	}
	// A Put beside a Drop may stand at more than one place.
	wantCost(t, four+"rule S = b\n", "a", 3)
	wantCost(t, four+"rule S = a d\n", "a b", 4)
	wantCost(t, four+"rule S = a d\n", "b b", 8)
	wantCost(t, four+"rule S = d a b\n", "c b", 3)
}

func TestMendDrops(t *testing.T) {
	for _, c := range []struct{ rules, row, want string }{
		{"rule S =\n", "a b c d", "drop 0 a 1 []; drop 1 b 3 []; drop 2 c 1 []; drop 3 d 9 []; 14 []"},
		{"rule S = a | b\n", "c b c", "drop 0 c 1 [a b]; drop 2 c 1 []; 2 [b]"},
		{"rule S = a S b |\n", "c a c b c", "drop 0 c 1 [a]; drop 2 c 1 [a b]; drop 4 c 1 []; 3 [a b]"},
		{list, "c", "drop 0 c 1 [a d]; 1 []"},
		{list, "a d", "drop 0 a 1 [a d]; 1 [d]"},
		{list, "a c b", "drop 1 c 1 [a b d]; 1 [a b]"},
	} {
		wantMended(t, four+c.rules, c.row, c.want)
	}
	// One of two that are alike.
	wantCost(t, four+"rule S = a b\n", "a a b", 1)
	wantCost(t, four+list, "d c c d", 1)
	wantCost(t, four+"rule S = a S b |\n", "a a a", 3)
}

func TestMendSwaps(t *testing.T) {
	ab := "token a 5 5\ntoken b 5 5\ntoken c 5 5\n"
	for _, c := range []struct{ rules, row, want string }{
		// Of two lines for the same the first counts, be it the dearer one.
		{"swap a b 3\nswap a b 9\nrule S = b\n", "a", "swap 0 a b 3 [b]; 3 [b]"},
		{"swap a b 7\nswap a b 3\nrule S = b\n", "a", "swap 0 a b 7 [b]; 7 [b]"},
		// A line is for one way, and not for the other.
		{"swap b a 1\nswap a b 9\nrule S = b\n", "a", "swap 0 a b 9 [b]; 9 [b]"},
		{"swap b c 1\nrule S = a b | c b b\n", "b b b", "swap 0 b c 1 [a c]; 1 [c b b]"},
		// What costs more than to leave out, and not to put in again.
		{"swap a b 6\nrule S = a | b b |\n", "a c", "drop 1 c 5 []; 5 [a]"},
		{"swap c b 6\nrule S = a B\nrule B = b |\n", "a c", "drop 1 c 5 [b]; 5 [a]"},
		{"swap a b 1\nswap a c 1\nswap c a 1\nrule S = b c a\n", "a a c", "swap 0 a b 1 [b]; swap 1 a c 1 [c]; swap 2 c a 1 [a]; 3 [b c a]"},
		{"rule S = b c\nswap a b 4\n", "a c", "swap 0 a b 4 [b]; 4 [b c]"},
	} {
		wantMended(t, ab+c.rules, c.row, c.want)
		wantMended(t, c.rules[:strings.Index(c.rules, "rule")]+ab+c.rules[strings.Index(c.rules, "rule"):], c.row, c.want)
	}
	// A swap that costs more than a Drop and a Put, or as much.
	for cost, want := range map[string]int{"99": 10, "11": 10, "10": 10, "9": 9} {
		wantCost(t, ab+"swap a b "+cost+"\nrule S = b\n", "a", want)
		wantCost(t, ab+"swap a b "+cost+"\nrule S = c b c\n", "c a c", want)
	}
	// The first line counts, even if by that a Drop and a Put cost less.
	wantCost(t, ab+"swap a b 11\nswap a b 1\nrule S = b\n", "a", 10)
	// One token is changed once: not from a to b and on to c, nor is one that was put in.
	wantCost(t, ab+"swap a b 1\nswap b c 1\nrule S = c\n", "a", 10)
	wantCost(t, "token a 1 1\ntoken b 9 9\nswap a b 1\nrule S = b\n", "", 9)
	m, _ := compiled(t, ab+"swap a b 11\nrule S = b\n").Mend([]string{"a"})
	if len(m.Edits) != 2 || m.Edits[0].Kind == api.Swap || m.Edits[1].Kind == api.Swap {
		t.Errorf("a swap that costs 11, for what a Drop and a Put do for 10: %s", mended(m))
	}
}

// TestMendExpected: what a row goes on with hangs on what was made of it, not on what it was; the END is not told.
func TestMendExpected(t *testing.T) {
	for _, c := range []struct{ rules, row, want string }{
		{"rule S = a A a | b A b\nrule A = c |\n", "b d b", "drop 1 d 9 [b c]; 9 [b b]"},
		{"rule S = a A a | b A b\nrule A = c |\n", "c a", "put 0 a 1 [a b]; 1 [a c a]"},
		{"rule S = A B C d\nrule A = a |\nrule B = b |\nrule C = c |\n", "", "put 0 d 1 [a b c d]; 1 [d]"},
		{"rule S = A B C d\nrule A = a |\nrule B = b |\nrule C = c |\n", "b", "put 1 d 1 [c d]; 1 [b d]"},
		{"swap d c 1\nswap a b 1\nrule S = b c\n", "a d", "swap 0 a b 1 [b]; swap 1 d c 1 [c]; 2 [b c]"},
		{"rule S = T S | d\nrule T = a T c | b\n", "a a c c d", "put 2 b 2 [a b]; 2 [a a b c c d]"},
	} {
		wantMended(t, four+c.rules, c.row, c.want)
	}
}

// TestMendAtLimits: as many tokens, names and costs as there may be.
func TestMendAtLimits(t *testing.T) {
	long := times(api.MaxRow, "a")
	wantCost(t, "token a 99 99\nrule S =\n", long, api.MaxRow*99)
	wantCost(t, "token a 1 1\nrule S = a S |\n", long, 0)
	wantCost(t, "token a 25 1\nrule S ="+eight("a")+"\n", "", api.MaxLeast)
	wantCost(t, "token a 99 99\ntoken b 99 99\nswap a b 99\nrule S = b S |\n", long, api.MaxRow*99)
	wantCost(t, small, times(api.MaxRow, "b"), api.MaxRow)
	wantCost(t, "token a 99 99\ntoken b 25 1\nrule S ="+eight("b")+"\n", long, api.MaxRow*99+api.MaxLeast)
	wantCost(t, "token a 99 99\ntoken b 25 1\nrule S ="+eight("b")+"\n", times(api.MaxRow-1, "a")+"b", (api.MaxRow-1)*99+7*25)
	all := strings.Split("abcdefghijklmnopqrst", "")
	text := named(api.MaxTokens, "token ", 'a', " 9 1") + "swap t a 1\nrule S = a S | " + strings.Join(all[1:], " S | ") + " S |\n"
	wantCost(t, text, strings.Join(append(all, all...), " "), 0)
	text = strings.Replace(text, " |\n", " | A B C D E F\n", 1) + named(5, "rule ", 'A', " =") + "rule F =\n"
	wantCost(t, text, strings.Join(append(all, all...), " "), 0)
	text = named(api.MaxTokens, "token ", 'a', " 9 1") + "rule S = T " + strings.Join(all[:7], " ") + "\nrule T = " + strings.Join(all, " | ") + "\n"
	wantMended(t, text, "a b c d e f g", fmt.Sprint("put 0 a 9 ", all, "; 9 [a a b c d e f g]"))
}

// wide gives a grammar of as many tokens, names and rules as there may be, of as many parts, without a clash.
func wide() string {
	var b strings.Builder
	b.WriteString(named(api.MaxTokens, "token ", 'a', " 2 9") + "swap a b 3\nswap c a 1\nswap t s 2\n")
	for i := range api.MaxNames {
		fmt.Fprintf(&b, "rule %c =", 'A'+i)
		for rule := range 3 {
			fmt.Fprintf(&b, " %c", 'a'+(3*i+rule)%api.MaxTokens)
			for part := range api.MaxParts - 1 {
				if rule == 2 {
					fmt.Fprintf(&b, " %c", 'a'+(7*i+part)%api.MaxTokens)
				} else {
					fmt.Fprintf(&b, " %c", 'A'+(i+part*rule+1)%api.MaxNames)
				}
			}
			if rule < 2 {
				b.WriteString(" |")
			}
		}
		b.WriteString("\n")
	}
	return b.String()
}

// TestMendWideGrammar (P1): long rows, which have little of what a row must have, of a grammar with as much as there may be.
func TestMendWideGrammar(t *testing.T) {
	text := wide()
	p, g := compiled(t, text), plainRead(text).mend()
	all := strings.Split("abcdefghijklmnopqrst", "")
	var n numbers = 10
	for range 4 {
		row := strings.Fields(times(n.below(api.MaxRow/2), n.of(all...)))
		for len(row) < api.MaxRow {
			row = append(row, n.of(all...))
		}
		m, err := p.Mend(row)
		most := 9*len(row) + api.MaxParts*2
		if err != api.OK || m.Cost > most {
			t.Errorf("Mend(%v) = %s, %d, want no more than %d", row, mended(m), err, most)
		}
		if len(m.Row) > longest {
			continue
		}
		if wrong := g.wrong(row, m); wrong != "" {
			t.Errorf("Mend(%v) = %s, %s: %s", row, mended(m), spelt(m.Tree), wrong)
		}
	}
}

// TestMendMakesLonger: what is made of a row may have more tokens than a row may have.
func TestMendMakesLonger(t *testing.T) {
	long := times(api.MaxRow, "a")
	for _, c := range []struct {
		rules string
		puts  int // of b, for each a
		nodes int
	}{
		{"rule S = a S b |\n", 1, 3*api.MaxRow + 1},
		{"rule S = a S T T |\nrule T =" + eight("b") + "\n", 16, 20*api.MaxRow + 1},
	} {
		m, err := compiled(t, "token a 1 99\ntoken b 1 1\n"+c.rules).Mend(strings.Fields(long))
		puts := c.puts * api.MaxRow
		first := fmt.Sprintf("put %d b 1 [a b]; ", api.MaxRow)
		others := strings.Repeat(fmt.Sprintf("put %d b 1 [b]; ", api.MaxRow), puts-1)
		want := fmt.Sprint(first, others, puts, " ", strings.Fields(long+times(puts, "b")))
		if got := mended(m); got != want || err != api.OK {
			t.Errorf("%q: Mend(%s) = %s, %d, want %s", c.rules, long, got, err, want)
		}
		if len(m.Tree) != c.nodes || m.Tree[0] != (api.Node{Name: "S", Rule: 0, Size: c.nodes}) {
			t.Errorf("%q: Mend(%s): a tree of %d nodes, want %d", c.rules, long, len(m.Tree), c.nodes)
		}
	}
}

// TestMendThroughNames: costs that go up through as many names as there may be.
func TestMendThroughNames(t *testing.T) {
	var down []string
	for i := range api.MaxNames - 1 {
		down = append(down, fmt.Sprintf("rule %c = %c", 'A'+i, 'B'+i))
	}
	text := lines("token a 2 1", "token b 1 9", "swap b a 4") + lines(down...)
	wantMended(t, text+"rule T = a\n", "", "put 0 a 2 [a]; 2 [a]")
	wantMended(t, text+"rule T = a\n", "b", "swap 0 b a 4 [a]; 4 [a]")
	wantCost(t, text+"rule T = a A b |\n", "b b", 4)
	wantCost(t, text+"rule T = a A b |\n", times(20, "b"), 2*20)
}

// TestMendErrors: ErrRow of what no row of the grammar may have, though it could be left out; nothing beside it.
func TestMendErrors(t *testing.T) {
	p := compiled(t, small+"swap a b 1\n")
	for _, row := range [][]string{
		{"c"}, {""}, {"S"}, {"a", "b", "c"}, {"a", ""}, {"\xff"}, {"a b"},
		strings.Fields(times(api.MaxRow+1, "a")), strings.Fields(times(api.MaxRow, "a") + "z"), make([]string, 1<<20),
	} {
		wantMendError(t, p, row, api.ErrRow)
		wantMendError(t, nil, row, api.ErrClosed)
		wantMendError(t, new(darn.Parser), row, api.ErrClosed)
	}
	if m, err := p.Mend(strings.Fields(times(api.MaxRow, "a"))); err != api.OK || m.Cost != api.MaxRow/2 {
		t.Errorf("Mend of %d tokens: %s, %d", api.MaxRow, mended(m), err)
	}
}

func wantMendError(t *testing.T, p *darn.Parser, row []string, want api.Errno) {
	t.Helper()
	m, err := p.Mend(row)
	if err != want || !isNothing(m) {
		t.Errorf("Mend(%.90q) = %v, %d, want nothing, %d", row, m, err, want)
	}
}

func isNothing(m api.Mended) bool {
	return len(m.Edits)+len(m.Costs)+m.Cost+len(m.Row)+len(m.Tree)+len(m.Expected) == 0
}

// TestMendGrownTree: so may the tree of what is mended.
func TestMendGrownTree(t *testing.T) {
	m, err := compiled(t, "token a 1 1\n"+grown()).Mend([]string{"a"})
	if err != api.OK || len(m.Edits) != 1 || !isGrown(m.Tree) || cap(m.Tree) != len(m.Tree) {
		t.Errorf("%d edits, %d nodes, %d, want one edit, 38347923 nodes", len(m.Edits), len(m.Tree), err)
	}
}

// TestMendGreatTrees (P1): a row whose tree no memory holds ends the call with an error; one that is mended to another is not touched by that.
func TestMendGreatTrees(t *testing.T) {
	wantMendError(t, compiled(t, empties(api.MaxNames, api.MaxParts)), nil, api.ErrMany)
	great := empties(api.MaxNames-1, api.MaxParts)
	wantMendError(t, compiled(t, four+"rule START = a A b\n"+great), strings.Fields("a c"), api.ErrMany)
	for _, start := range []string{"rule START = a A b | c | d\n", "rule START = d | c | a A b\n"} {
		either := four + start + great
		wantMendError(t, compiled(t, either), strings.Fields("a b"), api.ErrMany)
		wantMendError(t, compiled(t, either), strings.Fields("a c b"), api.ErrMany)
		wantMended(t, either, "", "put 0 d 1 [a c d]; 1 [d]")
		wantMended(t, either, "b b d", "drop 0 b 3 [a c d]; drop 1 b 3 [a c d]; 6 [d]")
		wantCost(t, either, "c a", 1)
	}
	// Where another row costs as much, and its tree is none of these, it is that one that is made.
	for _, start := range []string{"rule START = a A b | d d\n", "rule START = d d | a A b\n"} {
		swaps := four + "swap c a 1\nswap c b 1\nswap c d 1\n" + start + great
		wantMended(t, swaps, "c c", "swap 0 c d 1 [a d]; swap 1 c d 1 [d]; 2 [d d]")
		wantMendError(t, compiled(t, swaps), strings.Fields("a c"), api.ErrMany)
	}
	m, err := compiled(t, "token a 1 1\nrule START = a A\n"+empties(api.MaxNames-1, 2)).Mend(nil)
	if err != api.OK || len(m.Edits) != 1 || len(m.Tree) != 1<<(api.MaxNames-1)+1 {
		t.Errorf("%d edits, %d nodes, %d", len(m.Edits), len(m.Tree), err)
	}
}

// TestMendIsNew (P2): what is done to one list of an answer, its spare room too, or to the row, changes no other list and no later answer.
func TestMendIsNew(t *testing.T) {
	text := four + "swap c b 1\n" + runs
	p := compiled(t, text)
	for _, words := range []string{"", "c", "a b c", "b a", "a d b d", "c c c", "d d d a"} {
		row := strings.Fields(words)
		m, _ := p.Mend(row)
		before, tree := mended(m), spelt(m.Tree)
		for i := range row {
			row[i] = "z"
		}
		if mended(m) != before {
			t.Errorf("Mend(%s) = %s became %s", words, before, mended(m))
		}
		again, _ := p.Mend(strings.Fields(words))
		texts := append([][]string{again.Row[:cap(again.Row)]}, again.Expected...)
		for i, list := range texts {
			texts[i] = list[:cap(list)]
			fill(texts[i], fmt.Sprint("list ", i))
		}
		fill(again.Edits[:cap(again.Edits)], api.Edit{At: 7, Kind: 7, Old: "z", New: "z"})
		fill(again.Costs[:cap(again.Costs)], 7)
		fill(again.Tree[:cap(again.Tree)], api.Node{Name: "z", Rule: 7, Size: 7})
		fill(again.Expected[len(again.Expected):cap(again.Expected)], []string{"z"})
		for i, list := range texts {
			if slices.ContainsFunc(list, func(w string) bool { return w != fmt.Sprint("list ", i) }) {
				t.Errorf("Mend(%s): the list %d has been written into: %v", words, i, list)
			}
		}
		third, _ := p.Mend(strings.Fields(words))
		for _, m := range []api.Mended{m, third} {
			if mended(m) != before || spelt(m.Tree) != tree {
				t.Errorf("Mend(%s) = %s, %s became %s, %s", words, before, tree, mended(m), spelt(m.Tree))
			}
		}
	}
}

func fill[T any](list []T, with T) {
	for i := range list {
		list[i] = with
	}
}

// TestMendAnyRow holds the scripts for short rows of any grammar against a search through all scripts.
func TestMendAnyRow(t *testing.T) {
	var n numbers = 8
	kinds, searched, whole := map[int]int{}, 0, 0
	for range 15000 {
		text := n.withCosts(n.anyGrammar())
		p, err := darn.Compile(text)
		if err != api.OK {
			continue
		}
		g := plainRead(text).mend()
		for range 4 {
			var row []string
			for range n.below(6) {
				row = append(row, n.of(g.tokens...))
			}
			m, err := p.Mend(row)
			if len(m.Row) > longest {
				continue
			}
			if wrong := g.wrong(row, m); err != api.OK || wrong != "" {
				t.Fatalf("%q: Mend(%v) = %s, %s, %d: %s", text, row, mended(m), spelt(m.Tree), err, wrong)
			}
			for _, e := range m.Edits {
				kinds[e.Kind]++
			}
			if want, found := g.leastCost(row); found && m.Cost != want {
				t.Fatalf("%q: Mend(%v) = %s, %s, want the cost %d", text, row, mended(m), spelt(m.Tree), want)
			} else if found {
				searched++
			}
			if len(m.Edits) == 0 {
				whole++
			}
		}
	}
	t.Log(kinds, searched, whole)
	if kinds[api.Put] < 500 || kinds[api.Drop] < 500 || kinds[api.Swap] < 500 || searched < 3000 || whole < 100 {
		t.Errorf("only %v edits of each kind, %d rows searched, %d that the grammar has", kinds, searched, whole)
	}
}

// TestMendLongRows: a row that the grammar has and that was spoilt is mended at no more than what undoes that.
func TestMendLongRows(t *testing.T) {
	var n numbers = 9
	mends, less := 0, 0
	for range 15000 {
		text := n.withCosts(n.anyGrammar())
		p, err := darn.Compile(text)
		if err != api.OK {
			continue
		}
		g := plainRead(text).mend()
		for range 10 {
			row, most := n.spoiltRow(g.plain, n.derived(g.plain))
			if len(row) < 5 || len(row) > api.MaxRow {
				continue
			}
			m, err := p.Mend(row)
			if len(m.Row) > longest {
				continue
			}
			mends++
			if wrong := g.wrong(row, m); err != api.OK || wrong != "" || m.Cost > most {
				t.Fatalf("%q: Mend(%v) = %s, %s, %d, want no more than %d: %s", text, row, mended(m), spelt(m.Tree), err, most, wrong)
			}
			if m.Cost < most {
				less++
			}
		}
	}
	t.Log(mends, less)
	if mends < 500 || less < 50 {
		t.Errorf("only %d rows were mended, %d of them for less than what had been done to them", mends, less)
	}
}
