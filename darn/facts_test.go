package darn_test

import (
	"fmt"
	"strings"
	"testing"

	"darn/api"
	"darn/darn"
)

// lines ends each line.
func lines(l ...string) string { return strings.Join(l, "\n") + "\n" }

// eight gives eight times a word.
func eight(word string) string { return strings.Repeat(" "+word, api.MaxParts) }

// chain gives names of which each has the next eight times, the last one a token that costs put.
func chain(names, put int) string {
	l := []string{fmt.Sprint("token x ", put, " 1")}
	for i := range names - 1 {
		l = append(l, fmt.Sprintf("rule %c =%s", 'A'+i, eight(string(rune('B'+i)))))
	}
	return lines(append(l, fmt.Sprintf("rule %c =%s", 'A'+names-1, eight("x")))...)
}

// told spells facts, the END as $.
func told(facts []api.Fact) string {
	var l []string
	for _, f := range facts {
		words := strings.Join(f.First, " ") + " / "
		for i, w := range f.Follow {
			if i > 0 {
				words += " "
			}
			if w == "" {
				w = "$"
			}
			words += w
		}
		l = append(l, fmt.Sprint(f.Name, " ", f.Nullable, " ", words, " ", f.Least))
	}
	return strings.Join(l, "; ")
}

func wantFacts(t *testing.T, text, want string) {
	t.Helper()
	facts, err := darn.Facts(text)
	if got := told(facts); err != api.OK || got != want {
		t.Errorf("Facts(%q) = %s, %d, want %s", text, got, err, want)
	}
}

func TestFacts(t *testing.T) {
	for _, c := range []struct{ text, want string }{
		{small, "S true a / b $ 0"},
		{"rule S =\n", "S true  / $ 0"},
		{"rule S = |\n", "S true  / $ 0"},
		{"rule S = S |\n", "S true  / $ 0"},
		{"token a 7 1\nrule S = a\n", "S false a / $ 7"},
		{"token a 7 1\nrule S = a a\n", "S false a / $ 14"},
		{"token a 7 1\ntoken b 3 1\nrule S = a | b b | b b b\n", "S false a b / $ 6"},
		{"token a 1 1\ntoken b 5 1\nrule S = S a | b\n", "S false b / a $ 5"},
		{"token b 1 1\ntoken a 1 1\nrule S = a S | b S |\n", "S true b a / $ 0"},
		{"rule S = a b\ntoken b 1 1\n\ntoken a 2 9\nswap a b 1\n", "S false a / $ 3"},
		{"token s 1 1\ntoken a 1 1\nrule T = A s\nrule A = T a |\n", "T false s / a $ 1; A true s / s 0"},
	} {
		wantFacts(t, c.text, c.want)
	}
}

// TestFactsThroughNames: what a name has by what its parts have, those that derive the empty row above all.
func TestFactsThroughNames(t *testing.T) {
	abc := "token a 1 1\ntoken b 2 1\ntoken c 4 1\n"
	for _, c := range []struct{ text, want string }{
		{"rule S = A\nrule A = b B\nrule B = a\n", "S false b / $ 3; A false b / $ 3; B false a / $ 1"},
		{"rule S = A B c\nrule A = a |\nrule B = b |\n", "S false a b c / $ 4; A true a / b c 0; B true b / c 0"},
		{"rule S = A B A\nrule A = a |\nrule B = b |\n", "S true a b / $ 0; A true a / a b $ 0; B true b / a $ 0"},
		{"rule S = A B A\nrule A = a |\nrule B = b\n", "S false a b / $ 2; A true a / b $ 0; B false b / a $ 2"},
		{"rule S = a A\nrule A = B\nrule B = C\nrule C = S |\n", "S false a / $ 1; A true a / $ 0; B true a / $ 0; C true a / $ 0"},
		{"rule S = A c | b\nrule A = S a |\n", "S false b c / a $ 2; A true b c / c 0"},
		{"rule S = a A b | c\nrule A = S S\n", "S false a c / a b c $ 4; A false a c / b 8"},
		{"rule S = A A A\nrule A = B B\nrule B = a | b\n", "S false a b / $ 6; A false a b / a b $ 2; B false a b / a b $ 1"},
		{"rule S = A b\nrule A = B C\nrule B = a |\nrule C =\n", "S false a b / $ 2; A true a / b 0; B true a / b 0; C true  / b 0"},
	} {
		wantFacts(t, abc+c.text, c.want)
	}
}

// TestFactsAtLimits: as many tokens, names, rules and costs as there may be.
func TestFactsAtLimits(t *testing.T) {
	tokens := named(api.MaxTokens, "token ", 'a', " 99 1")
	all := strings.Split("abcdefghijklmnopqrst", "")
	wantFacts(t, tokens+"rule S = "+strings.Join(all, " S | ")+" S |\n", "S true "+strings.Join(all, " ")+" / $ 0")
	wantFacts(t, tokens+"rule S = T S |\nrule T = "+strings.Join(all, " | ")+"\n",
		"S true "+strings.Join(all, " ")+" / $ 0; T false "+strings.Join(all, " ")+" / "+strings.Join(all, " ")+" $ 99")
	wantFacts(t, "token a 25 1\nrule S ="+eight("a")+"\n", "S false a / $ 200")
	wantFacts(t, "token abcdefgh 1 1\nrule ABCDEFGH = abcdefgh\n", "ABCDEFGH false abcdefgh / $ 1")
	var names, want []string
	for i := range api.MaxNames - 1 {
		names = append(names, fmt.Sprintf("rule %c = %c |", 'A'+i, 'B'+i))
		want = append(want, fmt.Sprintf("%c true a / $ 0", 'A'+i))
	}
	wantFacts(t, lines("token a 1 1", strings.Join(names, "\n"), "rule T = a"), strings.Join(append(want, "T false a / $ 1"), "; "))
}

// TestFactsOfClash: a clash is no error of Facts.
func TestFactsOfClash(t *testing.T) {
	wantFacts(t, "token a 1 1\nrule S = a | A\nrule A = a\n", "S false a / $ 1; A false a / $ 1")
	wantFacts(t, "token a 1 1\nrule S = A a\nrule A = a |\n", "S false a / $ 1; A true a / a 0")
}

// faulty: texts of each error with the name that is at fault.
var faulty = []struct {
	text string
	err  api.Errno
	name string
}{
	{"", api.ErrMany, ""},
	{"rule S = S", api.ErrForm, ""},
	{"rule S = S\nrule S =\n", api.ErrTwice, ""},
	{"rule S = a\n", api.ErrUnknown, ""},
	{"rule S = S\nrule T = U\n", api.ErrUnknown, ""},
	{"rule S = S\n" + strings.Repeat("\n", api.MaxText), api.ErrLong, ""},
	{"rule S = S\n", api.ErrBarren, "S"},
	{"rule S = S | S S\n", api.ErrBarren, "S"},
	{"token a 1 1\nrule S = a S\n", api.ErrBarren, "S"},
	{"rule S = A |\nrule A = B\nrule B = A\n", api.ErrBarren, "A"},
	{"rule S = B |\nrule A =\nrule B = A B\n", api.ErrBarren, "B"},
	{"rule S =\nrule A =\nrule B = B\n", api.ErrBarren, "B"},
	{"token a 99 1\nrule S =" + eight("a") + "\nrule A = A\n", api.ErrBarren, "A"},
	{"rule S = |\nrule A = A\n", api.ErrBarren, "A"},
	{"rule S =\nrule A =\n", api.ErrLost, "A"},
	{"rule S =\nrule A = S\n", api.ErrLost, "A"},
	{"rule S = C |\nrule A = B\nrule B = A |\nrule C =\n", api.ErrLost, "A"},
	{"rule S = S B |\nrule B =\nrule C = B\nrule D = C\n", api.ErrLost, "C"},
	{"rule S =\nrule A = A |\n", api.ErrLost, "A"},
	{"token a 99 1\nrule S =" + eight("a") + "\nrule A =\n", api.ErrLost, "A"},
	{"rule S = |\nrule A = |\n", api.ErrLost, "A"},
	{"token a 26 1\nrule S =" + eight("a") + "\n", api.ErrDear, "S"},
	{"token a 25 1\ntoken b 26 1\nrule S = a a a a a a a b\n", api.ErrDear, "S"},
	{"token a 26 1\nrule S = a T | |\nrule T =" + eight("a") + "\n", api.ErrDear, "T"},
	{"token a 67 1\nrule S = | A\nrule A = a B\nrule B = a a a | a a\n", api.ErrDear, "A"},
	{chain(3, 1), api.ErrDear, "A"},
	{chain(api.MaxNames, 1), api.ErrDear, "A"},
	{chain(api.MaxNames, 16), api.ErrDear, "A"},
	{chain(api.MaxNames, 99), api.ErrDear, "A"},
}

// TestFactsFault: the errors in their order, and nothing beside them.
func TestFactsFault(t *testing.T) {
	for _, c := range faulty {
		if facts, err := darn.Facts(c.text); err != c.err || len(facts) > 0 {
			t.Errorf("Facts(%.90q) = %v, %d, want %d", c.text, facts, err, c.err)
		}
	}
}

// TestFactsAnyGrammar holds the facts of any grammar against those that are found in another way.
func TestFactsAnyGrammar(t *testing.T) {
	var n numbers = 4
	seen := map[api.Errno]int{}
	for range 20000 {
		text := n.anyGrammar()
		g := plainRead(text)
		want, err := "", g.fault().err
		if seen[err]++; err == api.OK {
			want = told(g.facts())
		}
		facts, got := darn.Facts(text)
		if got != err || told(facts) != want {
			t.Fatalf("Facts(%q) = %s, %d, want %s, %d", text, told(facts), got, want, err)
		}
	}
	wantSeen(t, seen, api.OK, api.ErrBarren, api.ErrLost, api.ErrDear)
}

// TestFactsAreNew (P2): what is done to one list changes no other one and no later answer.
func TestFactsAreNew(t *testing.T) {
	text := "token a 1 1\ntoken b 1 1\ntoken c 1 1\nrule S = A B c\nrule A = a A |\nrule B = b B | A\n"
	before, _ := darn.Facts(text)
	want := told(before)
	facts, _ := darn.Facts(text)
	var lists [][]string
	for _, f := range facts[:len(facts):cap(facts)] {
		lists = append(lists, f.First[:cap(f.First)], f.Follow[:cap(f.Follow)])
	}
	for i, list := range lists {
		for j := range list {
			list[j] = fmt.Sprint("list ", i)
		}
	}
	for i, list := range lists {
		for _, w := range list {
			if w != fmt.Sprint("list ", i) {
				t.Errorf("the list %d has been written into: %v", i, list)
			}
		}
	}
	wantFacts(t, text, want)
	if told(before) != want {
		t.Errorf("an earlier answer became %s, was %s", told(before), want)
	}
}
