package darn_test

import (
	"sync"
	"testing"

	"darn/api"
	"darn/darn"
)

// wantCompiled asks for the error of Clash, and for a Parser where there is none.
func wantCompiled(t *testing.T, text string) {
	t.Helper()
	_, want := darn.Clash(text)
	p, err := darn.Compile(text)
	if err != want || (p != nil) != (err == api.OK) {
		t.Fatalf("Compile(%.90q): a Parser: %v, %d, want %d", text, p != nil, err, want)
	}
	if p == nil {
		return
	}
	if _, _, err := p.Read(nil); err == api.ErrClosed {
		t.Errorf("Read(%.90q): the Parser that Compile made is closed", text)
	}
}

func TestCompile(t *testing.T) {
	for _, c := range []struct {
		text string
		err  api.Errno
	}{
		{small, api.OK},
		{"rule S =\n", api.OK},
		{small + "swap a b 1\n", api.OK},
		{"\n" + small + "\n\n", api.OK},
		{small + "\xff", api.ErrForm},
		{small[:len(small)-1], api.ErrForm},
		{"rule S = |\n", api.ErrClash},
		{"token a 1 1\nrule S = a | A\nrule A = a\n", api.ErrClash},
		{"token a 1 1\nrule S = S a |\n", api.ErrClash},
		{"rule S = S |\n", api.ErrClash},
	} {
		if p, err := darn.Compile(c.text); err != c.err || (p != nil) != (err == api.OK) {
			t.Errorf("Compile(%q): a Parser: %v, %d, want %d", c.text, p != nil, err, c.err)
		}
	}
	for _, text := range texts {
		wantCompiled(t, text)
	}
	for _, c := range faulty {
		if p, err := darn.Compile(c.text); err != c.err || p != nil {
			t.Errorf("Compile(%.90q): a Parser: %v, %d, want %d", c.text, p != nil, err, c.err)
		}
	}
}

func TestCompileAnyGrammar(t *testing.T) {
	var n numbers = 6
	for range 5000 {
		text := n.anyGrammar()
		if n.below(4) == 0 {
			text = n.spoilt(text)
		}
		wantCompiled(t, text)
	}
}

// TestParsersApart: a Parser knows its own grammar, whatever was compiled ahead of it or behind it.
func TestParsersApart(t *testing.T) {
	other := "token b 1 1\ntoken a 1 1\nrule A = b A | a\n"
	one := compiled(t, small)
	two := compiled(t, other)
	again := compiled(t, small)
	for range 2 {
		wantTree(t, one, "a b", "(S 0 4) (a -1 1) (S 1 1) (b -1 1)")
		wantTree(t, two, "b a", "(A 0 4) (b -1 1) (A 1 2) (a -1 1)")
		wantTree(t, again, "", "(S 1 1)")
		wantFault(t, one, "b a", 0)
		wantFault(t, two, "", 0)
		wantMendedBy(t, one, small, "b", "put 0 a 1 [a]; 1 [a b]")
		wantMendedBy(t, two, other, "b", "put 1 a 1 [b a]; 1 [b a]")
		wantMendedBy(t, again, small, "a", "drop 0 a 1 [a]; 1 []")
	}
}

// TestOneParserBeside (P2): rows that are read and mended at the same time know nothing of each other.
func TestOneParserBeside(t *testing.T) {
	p := compiled(t, small)
	var all sync.WaitGroup
	for range 8 {
		all.Go(func() {
			for range 200 {
				wantTree(t, p, "a b", "(S 0 4) (a -1 1) (S 1 1) (b -1 1)")
				wantFault(t, p, "a a b", 3)
				wantReadError(t, p, []string{"a", "z"}, api.ErrRow)
				wantMendedBy(t, p, small, "a b a", "drop 2 a 1 []; 1 [a b]")
				wantMendError(t, p, []string{"a", "z"}, api.ErrRow)
			}
		})
	}
	all.Wait()
}
