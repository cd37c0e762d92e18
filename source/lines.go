// Package source: a grammar's text: what is wrong with it, and what it says.
package source

import (
	"strconv"
	"strings"

	"darn/api"
)

// kind: what a word behind a line's first one may be.
type kind int

const (
	lower  kind = iota + 1 // a token
	upper                  // a name
	number                 // a cost
	equals                 // the sign between a name and its rules
	parts                  // all further words, any number: tokens, names and bars
)

// The lines that are not empty, as rows of shapes.
const (
	tokenLine = iota
	swapLine
	ruleLine
)

const bar = "|"

// shape: how a line is made.
type shape struct {
	word   string // its first word
	behind [3]kind
}

var shapes = [...]shape{
	tokenLine: {"token", [3]kind{lower, number, number}},
	swapLine:  {"swap", [3]kind{lower, lower, number}},
	ruleLine:  {"rule", [3]kind{upper, equals, parts}},
}

// line: a line that is not empty.
type line struct {
	at    int // where it begins
	shape int
	words []string // those behind the first
}

// readLines gives a text's lines up to the first that is none, and where that one begins; the text's length, if all are lines.
func readLines(text string) (lines []line, at int) {
reading:
	for at < len(text) {
		content, _, ended := strings.Cut(text[at:], "\n")
		if !ended {
			break
		}
		next := at + len(content) + 1
		if content == "" {
			at = next
			continue
		}
		words := strings.Split(content, " ")
		for i, s := range shapes {
			if words[0] == s.word && s.fits(words[1:]) {
				lines = append(lines, line{at, i, words[1:]})
				at = next
				continue reading
			}
		}
		break
	}
	return lines, at
}

// fits tells whether these words may stand behind the first.
func (s shape) fits(words []string) bool {
	for _, k := range s.behind {
		if k == parts {
			return allParts(words)
		}
		if len(words) == 0 || !k.has(words[0]) {
			return false
		}
		words = words[1:]
	}
	return len(words) == 0
}

// has tells whether a single word is of this kind.
func (k kind) has(word string) bool {
	switch k {
	case lower:
		return len(word) <= api.MaxName && isOf(word, 'a', 'z')
	case upper:
		return len(word) <= api.MaxName && isOf(word, 'A', 'Z')
	case number:
		_, ok := cost(word)
		return ok
	case equals:
		return word == "="
	}
	return false
}

func allParts(words []string) bool {
	for _, w := range words {
		if w != bar && !lower.has(w) && !upper.has(w) {
			return false
		}
	}
	return true
}

// cost asks for the digits first, because Atoi takes signs too.
func cost(word string) (int, bool) {
	if !isOf(word, '0', '9') || word[0] == '0' {
		return 0, false
	}
	n, err := strconv.Atoi(word)
	return n, err == nil && n <= api.MaxCost
}

// isOf tells whether a word is one or more bytes, all from low to high.
func isOf(word string, low, high byte) bool {
	for i := range len(word) {
		if word[i] < low || word[i] > high {
			return false
		}
	}
	return word != ""
}

// gives is the token or the name that a line gives; empty, if it gives none.
func (l line) gives() string {
	if l.shape == swapLine {
		return ""
	}
	return l.words[0]
}

// uses are the tokens and names in a line that others must give.
func (l line) uses() []string {
	switch l.shape {
	case swapLine:
		return l.words[:2]
	case ruleLine:
		var used []string
		for _, rule := range l.rules() {
			used = append(used, rule...)
		}
		return used
	}
	return nil
}

// rules are the lists of parts of a rule line.
func (l line) rules() [][]string {
	rules := [][]string{nil}
	for _, w := range l.words[2:] {
		last := len(rules) - 1
		if w == bar {
			rules = append(rules, nil)
		} else {
			rules[last] = append(rules[last], w)
		}
	}
	return rules
}
