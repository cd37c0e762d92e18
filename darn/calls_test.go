package darn_test

import (
	"slices"
	"strconv"
	"strings"
	"sync"
	"testing"

	"darn/api"
	"darn/darn"
)

// texts: right ones, and of each error of Check some.
var texts = []string{
	small, "rule S =\n", "", "\n", " ", "x", "rule", "rule \n", "rule S\n", "rule S = \n", "token\n", "token \n", "token a\n", "swap\n", "swap a\n", "swap a b\n",
	"\x00\xff", "=", "|", "rule S = " + strings.Repeat("| ", 50) + "\n",
	"rule S =\nrule S =\n", "token a 1 1\n", "rule S = a\n", small + "swap a a 1\n", small + "swap z a 1\n",
	strings.Repeat("x", api.MaxText+1), strings.Repeat("\n", api.MaxText), strings.Repeat(" ", api.MaxText), strings.Repeat("rule S =\n", 444),
	"rule S =" + strings.Repeat(" |", 1990) + "\n", "rule S =" + strings.Repeat(" S", 1990) + "\n", strings.Repeat("token a 1 1\n", 333),
	"rule S = S\n", "rule S =\nrule A = A\n", "rule S =\nrule A =\n", "rule S = |\n", chain(api.MaxNames, 1), chain(api.MaxNames, 16), chain(2, 3), chain(2, 4),
	"token a 1 1\nrule S = a | A\nrule A = a\n", "token a 1 1\nrule S = A a\nrule A = a |\n", "rule S =" + strings.Repeat(" |", api.MaxRules-1) + "\n",
	empties(api.MaxNames, 1), empties(api.MaxNames, api.MaxParts), "token a 1 1\ntoken b 1 1\nrule Z = a A | b A Z b\n" + empties(api.MaxNames-1, api.MaxParts),
	named(api.MaxTokens, "token ", 'a', " 99 1") + named(api.MaxNames, "rule ", 'A', " = A B C D E F G H | I J K L M N O P | Q R S T a b |"),
}

// rows: right ones, wrong ones, and of each error of Read and Mend some.
var rows = [][]string{nil, {}, {""}, {"a"}, {"a", "b"}, {"b", "a"}, {"S"}, {"c", "\xff"}, slices.Repeat([]string{"a"}, api.MaxRow+1)}

// TestNoCallPanics (P1); a call that does not end lets the test run out of time.
func TestNoCallPanics(t *testing.T) {
	for _, text := range texts {
		darn.Check(text)
		darn.Facts(text)
		darn.Clash(text)
		p, _ := darn.Compile(text)
		for _, parser := range []*darn.Parser{p, nil, {}} {
			for _, row := range rows {
				parser.Read(row)
				parser.Mend(row)
			}
		}
	}
}

// TestNothingBesideError (P1): with an error every other result is empty; Check's place is 0 where all is well.
func TestNothingBesideError(t *testing.T) {
	for _, text := range texts {
		err, at := darn.Check(text)
		if at < 0 || at > len(text) || err == api.OK && at != 0 {
			t.Errorf("Check(%.90q) = %d, %d", text, err, at)
		}
		if facts, err := darn.Facts(text); err != api.OK && len(facts) > 0 {
			t.Errorf("Facts(%.90q) = %v, %d", text, facts, err)
		}
		pair, err := darn.Clash(text)
		if err <= api.ErrUnknown && pair != (api.Pair{}) || err != api.ErrClash && pair != (api.Pair{Name: pair.Name}) {
			t.Errorf("Clash(%.90q) = %v, %d", text, pair, err)
		}
		p, err := darn.Compile(text)
		if err != api.OK && p != nil {
			t.Errorf("Compile(%.90q) = %v, %d", text, p, err)
		}
		for _, row := range rows {
			tree, at, err := p.Read(row)
			if at < -1 || at > len(row) || len(tree) > 0 != (err == api.OK && at == -1) || err != api.OK && at != 0 {
				t.Errorf("Compile(%.90q), Read(%q) = %d nodes, %d, %d", text, row, len(tree), at, err)
			}
			if m, err := p.Mend(row); isNothing(m) != (err != api.OK) {
				t.Errorf("Compile(%.90q), Mend(%q) = %s, %d nodes, %d", text, row, mended(m), len(m.Tree), err)
			}
		}
	}
}

// TestRowsAreLeftAlone (P2): neither a row nor the spare room behind it is written into.
func TestRowsAreLeftAlone(t *testing.T) {
	p, _ := darn.Compile(small)
	for _, row := range [][]string{{}, {"a"}, {"a", "b"}, {"b", "b", "a"}, {"z"}} {
		room := append(slices.Clone(row), "spare", "room", "behind")
		before := slices.Clone(room)
		p.Read(room[:len(row)])
		p.Mend(room[:len(row)])
		if !slices.Equal(room, before) {
			t.Errorf("the row %v with its spare room became %v", before, room)
		}
	}
}

// answered: what the calls answered to a text and, of its Parser, to each of the rows.
type answered struct {
	place    checked
	facts    string
	factsErr api.Errno
	pair     api.Pair
	pairErr  api.Errno
	made     api.Errno
	reads    string
	mends    string
}

func answers(text string) (a answered) {
	a.place.text = text
	a.place.err, a.place.at = darn.Check(text)
	facts, err := darn.Facts(text)
	a.facts, a.factsErr = told(facts), err
	a.pair, a.pairErr = darn.Clash(text)
	p, err := darn.Compile(text)
	a.made = err
	for _, row := range rows {
		tree, at, err := p.Read(row)
		a.reads += spelt(tree) + " " + strconv.Itoa(at) + " " + strconv.Itoa(int(err)) + "; "
		m, err := p.Mend(row)
		a.mends += mended(m) + " " + spelt(m.Tree) + " " + strconv.Itoa(int(err)) + "; "
	}
	return a
}

func wantSame(t *testing.T, all []answered) {
	for _, first := range all {
		if again := answers(first.place.text); again != first {
			t.Errorf("the answers %v became %v", first, again)
		}
	}
}

// TestSameAnswers (P2): what was asked before, or is asked beside, changes nothing.
func TestSameAnswers(t *testing.T) {
	var first []answered
	for _, text := range texts {
		first = append(first, answers(text))
	}
	for _, again := range first {
		for _, other := range texts {
			answers(other)
			wantSame(t, []answered{again})
		}
	}
	var all sync.WaitGroup
	for range 8 {
		all.Go(func() { wantSame(t, first) })
	}
	all.Wait()
}
