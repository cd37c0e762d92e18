// Package facts: a grammar with what its names have.
package facts

import (
	"slices"

	"darn/api"
	"darn/source"
)

// Facts: what was read, with the facts of each name.
type Facts struct {
	source.Grammar
	known []fact // by the names' numbers
}

// fact: what a name has.
type fact struct {
	least         int
	reached       bool // some list that can be made of the start has it
	first, follow Set
}

// A least cost is not counted beyond MaxLeast: the names of a grammar can make one that no integer holds.
const (
	dear   = api.MaxLeast + 1 // so much or more
	barren = dear + 1         // no row, so no cost
)

// Read gives a text's grammar with its facts, or what is wrong with it, and with which name, if it is one.
func Read(text string) (Facts, string, api.Errno) {
	g, err := source.Read(text)
	if err != api.OK {
		return Facts{}, "", err
	}
	f := Facts{g, make([]fact, len(g.Names))}
	f.findLeast()
	f.findReached()
	if name, err := f.fault(); err != api.OK {
		return Facts{}, name, err
	}
	f.findFirst()
	f.findFollow()
	return f, "", api.OK
}

// fault is the first error that some name has, and the first name that has it.
func (f *Facts) fault() (string, api.Errno) {
	for _, fault := range []struct {
		err api.Errno
		has func(fact) bool
	}{
		{api.ErrBarren, func(k fact) bool { return k.least == barren }},
		{api.ErrLost, func(k fact) bool { return !k.reached }},
		{api.ErrDear, func(k fact) bool { return k.least == dear }},
	} {
		if n := slices.IndexFunc(f.known, fault.has); n >= 0 {
			return f.Names[n].Word, fault.err
		}
	}
	return "", api.OK
}

// settle takes a step with each rule and its name's fact, until a round of them changes nothing.
func (f *Facts) settle(step func(k *fact, parts []source.Part)) {
	for {
		before := slices.Clone(f.known)
		for n, parts := range f.Rules() {
			step(&f.known[n], parts)
		}
		if slices.Equal(f.known, before) {
			return
		}
	}
}

func (f *Facts) findLeast() {
	for n := range f.known {
		f.known[n].least = barren
	}
	f.settle(func(k *fact, parts []source.Part) {
		k.least = min(k.least, f.leastOf(parts))
	})
}

// leastOf is what a list of parts least costs.
func (f *Facts) leastOf(parts []source.Part) int {
	sum := 0
	for _, p := range parts {
		cost := f.leastOfPart(p)
		if cost == barren {
			return barren
		}
		sum = min(sum+cost, dear)
	}
	return sum
}

func (f *Facts) leastOfPart(p source.Part) int {
	if p.IsName {
		return f.known[p.Number].least
	}
	return f.Tokens[p.Number].Put
}

func (f *Facts) findReached() {
	f.known[0].reached = true
	f.settle(func(k *fact, parts []source.Part) {
		for _, p := range parts {
			if p.IsName && k.reached {
				f.known[p.Number].reached = true
			}
		}
	})
}

func (f *Facts) findFirst() {
	f.settle(func(k *fact, parts []source.Part) {
		first, _ := f.begins(parts)
		k.first |= first
	})
}

func (f *Facts) findFollow() {
	f.known[0].follow = only(f.End())
	f.settle(func(k *fact, parts []source.Part) {
		for i, p := range parts {
			if p.IsName {
				f.known[p.Number].follow |= f.ahead(parts[i+1:], k.follow)
			}
		}
	})
}

// begins are the tokens with which a row can begin that a list of parts derives, and whether it derives the empty row.
func (f *Facts) begins(parts []source.Part) (Set, bool) {
	var first Set
	for _, p := range parts {
		more, empty := f.First(p)
		first |= more
		if !empty {
			return first, false
		}
	}
	return first, true
}

// First are the tokens with which a row can begin that a part derives, and whether it derives the empty row.
func (f *Facts) First(p source.Part) (Set, bool) {
	if !p.IsName {
		return only(p.Number), false
	}
	k := f.known[p.Number]
	return k.first, k.nullable()
}

// ahead are the tokens that can come first of a list of parts and of what follows it.
func (f *Facts) ahead(parts []source.Part, follow Set) Set {
	first, empty := f.begins(parts)
	if empty {
		return first | follow
	}
	return first
}

// nullable goes by the cost, because there is no token that costs nothing.
func (k fact) nullable() bool { return k.least == 0 }

// Begins tells whether a name derives a row that begins with a token.
func (f *Facts) Begins(name, token int) bool { return f.known[name].first.Has(token) }

// Empties tells whether a list of parts derives the empty row.
func (f *Facts) Empties(parts []source.Part) bool {
	_, empty := f.begins(parts)
	return empty
}

// Speaking are the tokens that speak for a rule of a name.
func (f *Facts) Speaking(name, rule int) Set {
	return f.ahead(f.Names[name].Rules[rule], f.known[name].follow)
}

// Told are the facts as they are handed out.
func (f *Facts) Told() []api.Fact {
	told := make([]api.Fact, len(f.known))
	for n, k := range f.known {
		told[n] = api.Fact{
			Name:     f.Names[n].Word,
			Nullable: k.nullable(),
			First:    f.Words(k.first),
			Follow:   f.Words(k.follow),
			Least:    k.least,
		}
	}
	return told
}

// Words are how the tokens of a set are spelt, by number: new memory each time.
func (f *Facts) Words(s Set) []string {
	var words []string
	for token := range s.All() {
		words = append(words, f.Word(token))
	}
	return words
}
