package darn_test

import (
	"slices"
	"strings"
	"sync"
	"testing"

	"darn/api"
	"darn/darn"
)

// texts: right ones, and of each error of Check some.
var texts = []string{
	small, "rule S =\n", "", "\n", " ", "x", "rule", "rule \n", "rule S\n", "rule S = \n", "token\n", "token \n", "token a\n", "swap\n", "swap a\n", "swap a b\n",
	"\x00\xff", "=", "|", "rule S = " + strings.Repeat("| ", 50) + "\n",
	"rule S =\nrule S =\n", "token a 1 1\n", "rule S = a\n", small + "swap a a 1\n", small + "swap z a 1\n",
	strings.Repeat("x", api.MaxText+1), strings.Repeat("\n", api.MaxText), strings.Repeat(" ", api.MaxText), strings.Repeat("rule S =\n", 444),
	"rule S =" + strings.Repeat(" |", 1990) + "\n", "rule S =" + strings.Repeat(" S", 1990) + "\n", strings.Repeat("token a 1 1\n", 333),
}

var rows = [][]string{nil, {}, {""}, {"a"}, {"a", "b"}, {"S"}, {"c", "\xff"}, slices.Repeat([]string{"a"}, api.MaxRow+1)}

// TestNoCallPanics (P1); a call that does not end lets the test run out of time.
func TestNoCallPanics(t *testing.T) {
	for _, text := range texts {
		darn.Check(text)
		darn.Facts(text)
		darn.Clash(text)
		p, _ := darn.Compile(text)
		for _, parser := range []*darn.Parser{p, nil, {}} {
			for _, row := range rows {
				parser.Read(row)
				parser.Mend(row)
			}
		}
	}
}

// TestNothingBesideError (P1): with an error every other result is empty; Check's place is 0 where all is well.
func TestNothingBesideError(t *testing.T) {
	for _, text := range texts {
		err, at := darn.Check(text)
		if at < 0 || at > len(text) || err == api.OK && at != 0 {
			t.Errorf("Check(%.90q) = %d, %d", text, err, at)
		}
		if facts, err := darn.Facts(text); err != api.OK && len(facts) > 0 {
			t.Errorf("Facts(%.90q) = %v, %d", text, facts, err)
		}
		if pair, err := darn.Clash(text); (err == api.OK || err <= api.ErrUnknown) && pair != (api.Pair{}) {
			t.Errorf("Clash(%.90q) = %v, %d", text, pair, err)
		}
		if p, err := darn.Compile(text); err != api.OK && p != nil {
			t.Errorf("Compile(%.90q) = %v, %d", text, p, err)
		}
	}
}

// TestRowsAreLeftAlone (P2): neither a row nor the spare room behind it is written into.
func TestRowsAreLeftAlone(t *testing.T) {
	p, _ := darn.Compile(small)
	for _, row := range [][]string{{}, {"a"}, {"a", "b"}, {"b", "b", "a"}, {"z"}} {
		room := append(slices.Clone(row), "spare", "room", "behind")
		before := slices.Clone(room)
		p.Read(room[:len(row)])
		p.Mend(room[:len(row)])
		if !slices.Equal(room, before) {
			t.Errorf("the row %v with its spare room became %v", before, room)
		}
	}
}

// TestSameAnswers (P2): what was asked before, or is asked beside, changes nothing.
func TestSameAnswers(t *testing.T) {
	var first []checked
	for _, text := range texts {
		err, at := darn.Check(text)
		first = append(first, checked{text, err, at})
	}
	for _, again := range first {
		for _, other := range texts {
			darn.Check(other)
			wantChecks(t, []checked{again})
		}
	}
	var all sync.WaitGroup
	for range 8 {
		all.Go(func() { wantChecks(t, first) })
	}
	all.Wait()
}
