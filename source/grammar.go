package source

import (
	"iter"
	"slices"
	"strings"

	"darn/api"
)

// Grammar: what was read: tokens and names, by number. The first name is the start.
type Grammar struct {
	Tokens []Token
	Names  []Name
}

// Token: how it is spelt, and what it costs to put it in and to leave it out.
type Token struct {
	Word      string
	Put, Drop int
	swaps     []int // what changing it costs, by the number of the other token; 0, if no line allows it
}

// Name: how it is spelt, and its rules, each a list of parts.
type Name struct {
	Word  string
	Rules [][]Part
}

// Part: a token or a name, by its number.
type Part struct {
	IsName bool
	Number int
}

// Read gives a text's grammar, or what is wrong with it.
func Read(text string) (Grammar, api.Errno) {
	lines, err, _ := checkedLines(text)
	if err != api.OK {
		return Grammar{}, err
	}
	return built(lines), api.OK
}

// built clones the words, because a piece of the text would keep all of it.
func built(lines []line) (g Grammar) {
	number := numbered(lines)
	for _, l := range lines {
		switch l.shape {
		case tokenLine:
			put, _ := cost(l.words[1])
			drop, _ := cost(l.words[2])
			g.Tokens = append(g.Tokens, Token{Word: strings.Clone(l.words[0]), Put: put, Drop: drop})
		case ruleLine:
			name := Name{Word: strings.Clone(l.words[0])}
			for _, words := range l.rules() {
				parts := make([]Part, len(words))
				for i, w := range words {
					parts[i] = number[w]
				}
				name.Rules = append(name.Rules, parts)
			}
			g.Names = append(g.Names, name)
		}
	}
	g.noteSwaps(lines, number)
	return g
}

// noteSwaps goes behind all tokens, because a swap line may stand ahead of those that it is for. Of two for the same the first counts.
func (g *Grammar) noteSwaps(lines []line, number map[string]Part) {
	for t := range g.Tokens {
		g.Tokens[t].swaps = make([]int, len(g.Tokens))
	}
	for _, l := range lines {
		if l.shape != swapLine {
			continue
		}
		from, to := number[l.words[0]].Number, number[l.words[1]].Number
		if swaps := g.Tokens[from].swaps; swaps[to] == 0 {
			swaps[to], _ = cost(l.words[2])
		}
	}
}

// numbered goes ahead of all rules, because a rule may have what a later line gives.
func numbered(lines []line) map[string]Part {
	number := map[string]Part{}
	tokens, names := 0, 0
	for _, l := range lines {
		switch l.shape {
		case tokenLine:
			number[l.gives()] = Part{false, tokens}
			tokens++
		case ruleLine:
			number[l.gives()] = Part{true, names}
			names++
		}
	}
	return number
}

// Start is the name of which all rows are derived.
func (g Grammar) Start() Part { return Part{IsName: true, Number: 0} }

// Numbers are a row's tokens by number; not ok, if one is none of the grammar's.
func (g Grammar) Numbers(row []string) (numbers []int, ok bool) {
	for _, word := range row {
		n := slices.IndexFunc(g.Tokens, func(t Token) bool { return t.Word == word })
		if n < 0 {
			return nil, false
		}
		numbers = append(numbers, n)
	}
	return numbers, true
}

// End is the number of the END.
func (g Grammar) End() int { return len(g.Tokens) }

// Word is how a token is spelt, the END as the empty string.
func (g Grammar) Word(token int) string {
	if token == g.End() {
		return ""
	}
	return g.Tokens[token].Word
}

// Spelt is how a part is spelt.
func (g Grammar) Spelt(p Part) string {
	if p.IsName {
		return g.Names[p.Number].Word
	}
	return g.Tokens[p.Number].Word
}

// SwapCost is what changing a token to another one costs; not ok, if no line allows it.
func (g Grammar) SwapCost(from, to int) (cost int, ok bool) {
	cost = g.Tokens[from].swaps[to]
	return cost, cost > 0
}

// Rules are the rules of all names, each with its name's number.
func (g Grammar) Rules() iter.Seq2[int, []Part] {
	return func(yield func(int, []Part) bool) {
		for n, name := range g.Names {
			for _, parts := range name.Rules {
				if !yield(n, parts) {
					return
				}
			}
		}
	}
}
