// Package table: a grammar with its facts and the table of the rules that the tokens speak for.
package table

import (
	"darn/api"
	"darn/facts"
	"darn/source"
)

// Table: what was read with its facts, with the rule that each token speaks for.
type Table struct {
	facts.Facts
	rules [api.MaxNames][api.MaxTokens + 1]int // by name and token; none, if it speaks for none
	empty [api.MaxNames]int                    // by name: the nodes of its tree of the empty row; 0, if it derives no such
}

const none = -1

// MaxNodes: of a tree that is built. It stands for the memory, for whose size a program can't ask, and for want of which it is killed. So many nodes take 28 GiB: the most of which a machine of 64 GiB holds two trees, that of an earlier call and the one that is built before the earlier one's memory is free again.
const MaxNodes = 7 << 27

// huge: so many nodes or more.
const huge = MaxNodes + 1

// Read gives a text's grammar with its table, or what is wrong with it, with the name or the clash.
func Read(text string) (*Table, api.Pair, api.Errno) {
	f, name, err := facts.Read(text)
	if err != api.OK {
		return nil, api.Pair{Name: name}, err
	}
	t := &Table{Facts: f}
	if clash, found := t.fill(); found {
		return nil, clash, api.ErrClash
	}
	t.measure()
	return t, api.Pair{}, api.OK
}

// fill notes the rule that each token speaks for, up to the first clash.
func (t *Table) fill() (clash api.Pair, found bool) {
filling:
	for n, name := range t.Names {
		row := &t.rules[n]
		for token := range row {
			row[token] = none
		}
		for rule := range name.Rules {
			for token := range t.Speaking(n, rule).All() {
				if row[token] != none {
					clash = api.Pair{Name: name.Word, Rule: row[token], Other: rule, Token: t.Word(token)}
					found = true
					break filling
				}
				row[token] = rule
			}
		}
	}
	return clash, found
}

// measure counts the nodes of the trees of the empty row. A round for each name is enough: no way down such a tree has a name twice, because a name that begins with itself has a clash.
func (t *Table) measure() {
	for range t.Names {
		for n, parts := range t.Rules() {
			if t.Empties(parts) {
				t.empty[n] = t.emptyNodes(parts)
			}
		}
	}
}

// emptyNodes are the nodes of a name's tree of the empty row, by the rule's parts.
func (t *Table) emptyNodes(parts []source.Part) int {
	nodes := 1
	for _, p := range parts {
		nodes = AddNodes(nodes, t.empty[p.Number])
	}
	return nodes
}

// AddNodes does not count beyond one more than MaxNodes, because no integer may hold the sum.
func AddNodes(some, more int) int { return min(some+more, huge) }

// EmptyNodes are the nodes of a name's tree of the empty row; 0, if it derives no such.
func (t *Table) EmptyNodes(name int) int { return t.empty[name] }

// Rule are the parts of the rule of a name that a token speaks for, and its number. The token has to speak for one.
func (t *Table) Rule(name, token int) ([]source.Part, int) {
	rule := t.rules[name][token]
	return t.Names[name].Rules[rule], rule
}
