package darn_test

import (
	"fmt"
	"slices"
	"strings"

	"darn/api"
)

// plainMend: what is asked of rows of a grammar, with what was found of them the slow way.
type plainMend struct {
	*plain
	goesOn map[string]bool // by a beginning: whether the grammar has a row that begins so
}

func (g *plain) mend() *plainMend { return &plainMend{g, map[string]bool{}} }

func (g *plainMend) begun(row []string) bool {
	key := strings.Join(row, " ")
	on, known := g.goesOn[key]
	if !known {
		on = g.pieces(row, true).whole()
		g.goesOn[key] = on
	}
	return on
}

// expected are the tokens with which a row goes on.
func (g *plainMend) expected(begun []string) (tokens []string) {
	for _, token := range g.tokens {
		if g.begun(append(slices.Clone(begun), token)) {
			tokens = append(tokens, token)
		}
	}
	return tokens
}

// costOf is what an edit costs; 0, if it is none.
func (g *plainMend) costOf(e api.Edit) int {
	switch {
	case e.Kind == api.Put && e.Old == "":
		return int(g.put[e.New])
	case e.Kind == api.Drop && e.New == "":
		return g.drop[e.Old]
	case e.Kind == api.Swap:
		return g.swap[[2]string{e.Old, e.New}]
	}
	return 0
}

// wrong tells what is amiss with how a row was mended, but for what it costs; nothing, if all is well.
func (g *plainMend) wrong(row []string, m api.Mended) string {
	if len(m.Costs) != len(m.Edits) || len(m.Expected) != len(m.Edits) {
		return "not as many costs and expected tokens as edits"
	}
	var made []string
	at, sum := 0, 0
	for i, e := range m.Edits {
		if e.At < at || e.At > len(row) || e.Kind != api.Put && (e.At == len(row) || e.Old != row[e.At]) {
			return fmt.Sprint("the edit ", i, " is out of its place")
		}
		made = append(made, row[at:e.At]...)
		at = e.At
		if want := g.costOf(e); want == 0 || m.Costs[i] != want {
			return fmt.Sprint("the edit ", i, " costs ", want)
		}
		sum += m.Costs[i]
		if want := g.expected(made); !slices.Equal(m.Expected[i], want) {
			return fmt.Sprint("of the edit ", i, " there are expected ", want)
		}
		if e.Kind != api.Drop {
			made = append(made, e.New)
		}
		if e.Kind != api.Put {
			at++
		}
	}
	switch made = append(made, row[at:]...); {
	case m.Cost != sum:
		return fmt.Sprint("the sum is ", sum)
	case !slices.Equal(m.Row, made):
		return fmt.Sprint("the script makes ", made)
	case !g.isTree(m.Tree, made):
		return "the tree is none of the row"
	}
	return ""
}

// partly: how far a script has come: a place of the row, and what it has made so far.
type partly struct {
	at   int
	made string
}

// leastCost tries all scripts, the cheaper ones first, until one makes a row that the grammar has. It gives up, if there are too many.
func (g *plainMend) leastCost(row []string) (int, bool) {
	byCost := [][]partly{{{0, ""}}}
	tried := map[partly]bool{}
	for cost := 0; cost < len(byCost) && len(tried) < 3000; cost++ {
		for i := 0; i < len(byCost[cost]); i++ {
			p := byCost[cost][i]
			if tried[p] {
				continue
			}
			tried[p] = true
			if len(strings.Fields(p.made)) == longest {
				return 0, false
			}
			if p.at == len(row) && g.pieces(strings.Fields(p.made), false).whole() {
				return cost, true
			}
			for next, more := range g.steps(row, p) {
				for len(byCost) <= cost+more {
					byCost = append(byCost, nil)
				}
				byCost[cost+more] = append(byCost[cost+more], next)
			}
		}
	}
	return 0, false
}

// steps are all that a script can do next, each with what it costs, but for what makes a row that can't go on.
func (g *plainMend) steps(row []string, p partly) map[partly]int {
	steps := map[partly]int{}
	step := func(at int, token string, cost int) {
		next := partly{at, p.made + " " + token}
		if before, known := steps[next]; (!known || cost < before) && g.begun(strings.Fields(next.made)) {
			steps[next] = cost
		}
	}
	for _, token := range g.tokens {
		step(p.at, token, int(g.put[token]))
	}
	if p.at == len(row) {
		return steps
	}
	old := row[p.at]
	steps[partly{p.at + 1, p.made}] = g.drop[old]
	step(p.at+1, old, 0)
	for _, token := range g.tokens {
		if cost := g.swap[[2]string{old, token}]; cost > 0 {
			step(p.at+1, token, cost)
		}
	}
	return steps
}

// withCosts gives a grammar with other costs of leaving out, and with swap lines, some of them twice, some ahead of the tokens.
func (n *numbers) withCosts(text string) string {
	most := []int{3, 10, api.MaxCost}[n.below(3)]
	var tokens []string
	var b strings.Builder
	for line := range strings.Lines(text) {
		w := strings.Fields(line)
		if w[0] == "token" {
			tokens = append(tokens, w[1])
			line = fmt.Sprintln(w[0], w[1], w[2], 1+n.below(most))
		}
		b.WriteString(line)
	}
	for range n.below(6) {
		from, to := n.of(tokens...), n.of(tokens...)
		if from == to {
			continue
		}
		swap := fmt.Sprintln("swap", from, to, 1+n.below(most))
		if n.below(2) == 0 {
			swap += b.String()
			b.Reset()
		}
		b.WriteString(swap)
	}
	return b.String()
}

// spoiltRow goes through a row and leaves out, puts in or changes some tokens; and what it costs to undo that.
func (n *numbers) spoiltRow(g *plain, row []string) (spoilt []string, cost int) {
	for _, token := range row {
		other := n.of(g.tokens...)
		switch n.below(12) {
		case 0:
			cost += int(g.put[token])
		case 1:
			spoilt = append(spoilt, other, token)
			cost += g.drop[other]
		case 2:
			spoilt = append(spoilt, other)
			cost += g.undone(other, token)
		default:
			spoilt = append(spoilt, token)
		}
	}
	return spoilt, cost
}

// undone is what it costs to have one token in another one's place.
func (g *plain) undone(other, token string) int {
	if other == token {
		return 0
	}
	cost := g.drop[other] + int(g.put[token])
	if swap := g.swap[[2]string{other, token}]; swap > 0 {
		cost = min(cost, swap)
	}
	return cost
}
