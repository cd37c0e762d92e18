package darn_test

import (
	"strings"
	"testing"

	"darn/api"
	"darn/darn"
)

func wantClash(t *testing.T, text string, err api.Errno, pairs ...api.Pair) {
	t.Helper()
	got, e := darn.Clash(text)
	for _, pair := range pairs {
		if got == pair && e == err {
			return
		}
	}
	t.Errorf("Clash(%.90q) = %v, %d, want one of %v, %d", text, got, e, pairs, err)
}

func TestNoClash(t *testing.T) {
	abc := "token a 1 1\ntoken b 1 1\ntoken c 1 1\n"
	for _, text := range []string{
		small,
		"rule S =\n",
		abc + "rule S = a | b | c |\n",
		abc + "rule S = A b | c\nrule A = a |\n",
		abc + "rule S = A B c\nrule A = a A |\nrule B = b B |\n",
		abc + "rule S = A | b\nrule A = a S | c\n",
		abc + "rule S = a A a | b A b\nrule A = c |\n",
		abc + "rule S = A B\nrule A = a |\nrule B = b |\n",
		abc + "rule S = a b | b a |\n",
		abc + "rule S = a S S b | c\n",
		abc + "rule S = a | A b\nrule A = | c S\n",
		named(api.MaxTokens, "token ", 'a', " 1 1") + "rule S = a | b | c | d | e | f | g | h | i | j | k | l | m | n | o | p | q | r | s | t |\n",
	} {
		wantClash(t, text, api.OK, api.Pair{})
	}
}

func TestClash(t *testing.T) {
	abc := "token a 1 1\ntoken b 1 1\ntoken c 1 1\n"
	for _, c := range []struct {
		text string
		pair api.Pair
	}{
		{"rule S = a | A\nrule A = a\n", api.Pair{Name: "S", Rule: 0, Other: 1, Token: "a"}},
		{"rule S = A a\nrule A = a |\n", api.Pair{Name: "A", Rule: 0, Other: 1, Token: "a"}},
		{"rule S = A a\nrule A = | b | a\n", api.Pair{Name: "A", Rule: 0, Other: 2, Token: "a"}},
		{"rule S = a | a\n", api.Pair{Name: "S", Rule: 0, Other: 1, Token: "a"}},
		{"rule S = a b | a c\n", api.Pair{Name: "S", Rule: 0, Other: 1, Token: "a"}},
		{"rule S = |\n", api.Pair{Name: "S", Rule: 0, Other: 1}},
		{"rule S = a | | b | c |\n", api.Pair{Name: "S", Rule: 1, Other: 4}},
		{"rule S = S |\n", api.Pair{Name: "S", Rule: 0, Other: 1}},
		{"rule S = A | B\nrule A =\nrule B = b |\n", api.Pair{Name: "S", Rule: 0, Other: 1}},
		{"rule S = A | b\nrule A = B\nrule B = a | b\n", api.Pair{Name: "S", Rule: 0, Other: 1, Token: "b"}},
		{"rule S = S a | b\n", api.Pair{Name: "S", Rule: 0, Other: 1, Token: "b"}},
		{"rule S = A b\nrule A = B c |\nrule B = b |\n", api.Pair{Name: "A", Rule: 0, Other: 1, Token: "b"}},
		{"rule S = a S A |\nrule A = b |\n", api.Pair{Name: "A", Rule: 0, Other: 1, Token: "b"}},
		{"rule S = T T | c\nrule T = a U |\nrule U = b U | c\n", api.Pair{Name: "T", Rule: 0, Other: 1, Token: "a"}},
	} {
		wantClash(t, abc+c.text, api.ErrClash, c.pair)
	}
}

// TestFirstNameOfClash: which clash of a name is free, which name is not.
func TestFirstNameOfClash(t *testing.T) {
	ab := "token a 1 1\ntoken b 1 1\n"
	wantClash(t, ab+"rule S = A | b\nrule A = a | b S | a S | b\n", api.ErrClash, api.Pair{Name: "S", Rule: 0, Other: 1, Token: "b"})
	wantClash(t, ab+"rule S = a A\nrule A = a | b S | a S | b\n", api.ErrClash,
		api.Pair{Name: "A", Rule: 0, Other: 2, Token: "a"}, api.Pair{Name: "A", Rule: 1, Other: 3, Token: "b"})
	wantClash(t, ab+"rule S = a B | b A\nrule B = a | a\nrule A = b | b\n", api.ErrClash, api.Pair{Name: "B", Rule: 0, Other: 1, Token: "a"})
}

// TestClashAtLimits: the last token, the last name, the last rule.
func TestClashAtLimits(t *testing.T) {
	tokens := named(api.MaxTokens, "token ", 'a', " 1 1")
	var names strings.Builder
	for i := range api.MaxNames - 1 {
		names.WriteString("rule " + string(rune('A'+i)) + " = a " + string(rune('B'+i)) + " |\n")
	}
	wantClash(t, tokens+names.String()+"rule T = b | t | c | t\n", api.ErrClash, api.Pair{Name: "T", Rule: 1, Other: 3, Token: "t"})
	wantClash(t, tokens+names.String()+"rule T = b | t | c |\n", api.OK, api.Pair{})
	wantClash(t, "rule S ="+strings.Repeat(" |", api.MaxRules-1)+"\n", api.ErrClash, everyEmpty(api.MaxRules)...)
}

// everyEmpty are the clashes of so many rules without parts.
func everyEmpty(rules int) (pairs []api.Pair) {
	for other := range rules {
		for rule := range other {
			pairs = append(pairs, api.Pair{Name: "S", Rule: rule, Other: other})
		}
	}
	return pairs
}

// TestClashFault: the errors ahead of a clash, with the name that is at fault and nothing else.
func TestClashFault(t *testing.T) {
	for _, c := range faulty {
		wantClash(t, c.text, c.err, api.Pair{Name: c.name})
	}
}

// TestClashAnyGrammar asks of any grammar for a clash of the first name that has one.
func TestClashAnyGrammar(t *testing.T) {
	var n numbers = 5
	seen := map[api.Errno]int{}
	for range 20000 {
		text := n.anyGrammar()
		g := plainRead(text)
		want, pairs := g.fault(), []api.Pair(nil)
		if want.err == api.OK {
			pairs = g.clashes()
		} else {
			pairs = []api.Pair{{Name: want.name}}
		}
		if want.err == api.OK && len(pairs) > 0 {
			want.err = api.ErrClash
		} else if want.err == api.OK {
			pairs = []api.Pair{{}}
		}
		seen[want.err]++
		wantClash(t, text, want.err, pairs...)
	}
	wantSeen(t, seen, api.OK, api.ErrBarren, api.ErrLost, api.ErrDear, api.ErrClash)
}
