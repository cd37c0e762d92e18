package darn_test

import (
	"fmt"
	"maps"
	"math"
	"slices"
	"strconv"
	"strings"
	"testing"

	"darn/api"
)

// plain: a grammar whose facts are found by going through derivations up to a height, the slow way.
type plain struct {
	tokens, names []string
	put           map[string]float64
	drop          map[string]int
	swap          map[[2]string]int // by the token that is changed and the one that it is changed to
	rules         map[string][][]string
	beginnings    map[string]map[string]bool // of the rows that a name derives: the first token, or nothing of the empty row
	leasts        map[string]float64
	behind        map[string]map[string]bool
}

// height is enough for what anyGrammar gives: up to it each step finds one more of at most five beginnings of at most four names.
const height = 4*5 + 1

func plainRead(text string) *plain {
	g := &plain{put: map[string]float64{}, drop: map[string]int{}, swap: map[[2]string]int{}, rules: map[string][][]string{}, behind: map[string]map[string]bool{}}
	for line := range strings.Lines(text) {
		w := strings.Fields(line)
		switch w[0] {
		case "token":
			var put float64
			fmt.Sscan(w[2], &put)
			g.tokens = append(g.tokens, w[1])
			g.put[w[1]] = put
			g.drop[w[1]], _ = strconv.Atoi(w[3])
		case "swap":
			if pair := [2]string{w[1], w[2]}; g.swap[pair] == 0 {
				g.swap[pair], _ = strconv.Atoi(w[3])
			}
		case "rule":
			g.names = append(g.names, w[1])
			for rule := range strings.SplitSeq(strings.Join(w[3:], " "), "|") {
				g.rules[w[1]] = append(g.rules[w[1]], strings.Fields(rule))
			}
		}
	}
	for range height {
		g.climb()
	}
	g.walk(g.names[0], "")
	return g
}

// climb goes from what derivations of one height give to what those of the next one do.
func (g *plain) climb() {
	beginnings, leasts := map[string]map[string]bool{}, map[string]float64{}
	for _, n := range g.names {
		beginnings[n], leasts[n] = map[string]bool{}, math.Inf(1)
		for _, rule := range g.rules[n] {
			maps.Copy(beginnings[n], g.begin(rule))
			leasts[n] = min(leasts[n], g.least(rule))
		}
	}
	g.beginnings, g.leasts = beginnings, leasts
}

func (g *plain) begin(parts []string) map[string]bool {
	if len(parts) == 0 {
		return map[string]bool{"": true}
	}
	if g.rules[parts[0]] == nil {
		return map[string]bool{parts[0]: true}
	}
	all := maps.Clone(g.beginnings[parts[0]])
	if all[""] {
		delete(all, "")
		maps.Copy(all, g.begin(parts[1:]))
	}
	return all
}

func (g *plain) least(parts []string) float64 {
	sum := 0.0
	for _, p := range parts {
		if g.rules[p] == nil {
			sum += g.put[p]
		} else if least, known := g.leasts[p]; known {
			sum += least
		} else {
			return math.Inf(1)
		}
	}
	return sum
}

// walk goes from a name with a token behind it to all others that can be made of it.
func (g *plain) walk(name, behind string) {
	if g.behind[name] == nil {
		g.behind[name] = map[string]bool{}
	}
	if g.behind[name][behind] {
		return
	}
	g.behind[name][behind] = true
	for _, rule := range g.rules[name] {
		for i, p := range rule {
			if g.rules[p] == nil {
				continue
			}
			for next := range g.begin(rule[i+1:]) {
				if next == "" {
					next = behind
				}
				g.walk(p, next)
			}
		}
	}
}

// fault: an error, and the name that has it.
type fault struct {
	err  api.Errno
	name string
}

func (g *plain) fault() fault {
	for _, n := range g.names {
		if math.IsInf(g.leasts[n], 1) {
			return fault{api.ErrBarren, n}
		}
	}
	for _, n := range g.names {
		if g.behind[n] == nil {
			return fault{api.ErrLost, n}
		}
	}
	for _, n := range g.names {
		if g.leasts[n] > api.MaxLeast {
			return fault{api.ErrDear, n}
		}
	}
	return fault{}
}

func (g *plain) facts() (facts []api.Fact) {
	for _, n := range g.names {
		f := api.Fact{Name: n, Nullable: g.beginnings[n][""], Least: int(g.leasts[n])}
		for _, token := range g.tokens {
			if g.beginnings[n][token] {
				f.First = append(f.First, token)
			}
		}
		for _, token := range append(slices.Clone(g.tokens), "") {
			if g.behind[n][token] {
				f.Follow = append(f.Follow, token)
			}
		}
		facts = append(facts, f)
	}
	return facts
}

// clashes are all those of the first name that has any.
func (g *plain) clashes() (pairs []api.Pair) {
	for _, n := range g.names {
		for other := range g.rules[n] {
			for rule := range other {
				for _, token := range append(slices.Clone(g.tokens), "") {
					if g.speaks(n, rule, token) && g.speaks(n, other, token) {
						pairs = append(pairs, api.Pair{Name: n, Rule: rule, Other: other, Token: token})
					}
				}
			}
		}
		if pairs != nil {
			return pairs
		}
	}
	return nil
}

func (g *plain) speaks(name string, rule int, token string) bool {
	begin := g.begin(g.rules[name][rule])
	return token != "" && begin[token] || begin[""] && g.behind[name][token]
}

// anyGrammar gives a grammar that Check takes, with at most four tokens and four names.
func (n *numbers) anyGrammar() string {
	var b strings.Builder
	tokens := []string{"a", "b", "c", "d"}[:1+n.below(4)]
	names := []string{"S", "A", "B", "C"}[:1+n.below(4)]
	words := append(slices.Concat(tokens, tokens, names, names[1:]), "|", "|")
	most := []int{3, api.MaxCost}[n.below(2)]
	for _, token := range tokens {
		fmt.Fprintln(&b, "token", token, 1+n.below(most), 1)
	}
	for _, name := range names {
		b.WriteString("rule " + name + " =")
		for range n.below(9) {
			b.WriteString(" " + n.of(words...))
		}
		b.WriteString("\n")
	}
	return b.String()
}

// wantSeen asks that each of these errors came often enough to tell something.
func wantSeen(t *testing.T, seen map[api.Errno]int, errs ...api.Errno) {
	t.Helper()
	for _, err := range errs {
		if seen[err] < 300 {
			t.Errorf("of the error %d there are only %d", err, seen[err])
		}
	}
}
