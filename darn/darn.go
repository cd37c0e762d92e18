// Package darn: a parser that mends what it reads as cheaply as can be: see DOC.md.
package darn

import (
	"darn/api"
	"darn/facts"
	"darn/mend"
	"darn/source"
	"darn/table"
	"darn/tree"
)

// Parser reads and mends rows of tokens.
type Parser struct {
	table *table.Table // nil, if Compile did not make the Parser
}

// Check tells whether a text is a grammar, and if not, where (P3).
func Check(grammar string) (api.Errno, int) { return source.Check(grammar) }

// Facts tells what a grammar's names have (P4).
func Facts(grammar string) ([]api.Fact, api.Errno) {
	f, _, err := facts.Read(grammar)
	if err != api.OK {
		return nil, err
	}
	return f.Told(), api.OK
}

// Clash tells why a grammar can't be compiled (P5).
func Clash(grammar string) (api.Pair, api.Errno) {
	_, pair, err := table.Read(grammar)
	return pair, err
}

// Compile makes a Parser (P6).
func Compile(grammar string) (*Parser, api.Errno) {
	t, _, err := table.Read(grammar)
	if err != api.OK {
		return nil, err
	}
	return &Parser{t}, api.OK
}

// Read reads a row that the grammar has (P7).
func (p *Parser) Read(row []string) ([]api.Node, int, api.Errno) {
	tokens, err := p.tokens(row)
	if err != api.OK {
		return nil, 0, err
	}
	return tree.Read(p.table, tokens)
}

// Mend mends a row (P8).
func (p *Parser) Mend(row []string) (api.Mended, api.Errno) {
	tokens, err := p.tokens(row)
	if err != api.OK {
		return api.Mended{}, err
	}
	return mend.Mend(p.table, tokens)
}

// tokens are a row's tokens by number, or what is wrong with the Parser or the row.
func (p *Parser) tokens(row []string) ([]int, api.Errno) {
	if p == nil || p.table == nil {
		return nil, api.ErrClosed
	}
	if len(row) > api.MaxRow {
		return nil, api.ErrRow
	}
	numbers, ok := p.table.Numbers(row)
	if !ok {
		return nil, api.ErrRow
	}
	return numbers, api.OK
}
