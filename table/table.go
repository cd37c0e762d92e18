// Package table: a grammar with its facts and the table of the rules that the tokens speak for.
package table

import (
	"darn/api"
	"darn/facts"
)

// Table: what was read with its facts, with the rule that each token speaks for.
type Table struct {
	facts.Facts
	rules [api.MaxNames][api.MaxTokens + 1]int // by name and token; none, if it speaks for none
}

const none = -1

// Read gives a text's grammar with its table, or what is wrong with it, with the name or the clash.
func Read(text string) (*Table, api.Pair, api.Errno) {
	f, name, err := facts.Read(text)
	if err != api.OK {
		return nil, api.Pair{Name: name}, err
	}
	t := &Table{Facts: f}
	if clash, found := t.fill(); found {
		return nil, clash, api.ErrClash
	}
	return t, api.Pair{}, api.OK
}

// fill notes the rule that each token speaks for, up to the first clash.
func (t *Table) fill() (clash api.Pair, found bool) {
filling:
	for n, name := range t.Names {
		row := &t.rules[n]
		for token := range row {
			row[token] = none
		}
		for rule := range name.Rules {
			for token := range t.Speaking(n, rule).All() {
				if row[token] != none {
					clash = api.Pair{Name: name.Word, Rule: row[token], Other: rule, Token: t.Word(token)}
					found = true
					break filling
				}
				row[token] = rule
			}
		}
	}
	return clash, found
}
