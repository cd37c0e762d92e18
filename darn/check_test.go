package darn_test

import (
	"regexp"
	"strings"
	"testing"

	"darn/api"
	"darn/darn"
)

// G of the document.
const small = "token a 1 1\ntoken b 2 3\nrule S = a S b |\n"

type checked struct {
	text string
	err  api.Errno
	at   int
}

func wantChecks(t *testing.T, cases []checked) {
	t.Helper()
	for _, c := range cases {
		if err, at := darn.Check(c.text); err != c.err || at != c.at {
			t.Errorf("Check(%.90q) = %d, %d, want %d, %d", c.text, err, at, c.err, c.at)
		}
	}
}

// named gives n lines, each with another letter from the first on between what stands ahead and behind.
func named(n int, ahead string, first byte, behind string) string {
	var b strings.Builder
	for i := range n {
		b.WriteString(ahead + string(rune(first+byte(i))) + behind + "\n")
	}
	return b.String()
}

func TestCheckTakes(t *testing.T) {
	for _, text := range []string{
		small,
		"rule S =\n",
		"rule S = S\n",
		"rule S = |\n",
		"rule S = | | |\n",
		"\n\nrule S =\n\n",
		"token a 99 10\ntoken b 1 9\nswap a b 99\nswap b a 1\nrule S = a b\n",
		"swap a b 5\nrule S = T a\nrule T = b\ntoken b 1 1\ntoken a 1 1\n",
		"token a 1 1\ntoken b 1 1\nswap a b 1\nswap a b 2\nrule S =\n",
		"token token 1 1\ntoken swap 1 1\ntoken rule 1 1\nswap token swap 1\nrule S = rule token swap\n",
		"token s 1 1\nrule S = s S | s\n",
		"token abcdefgh 1 1\nrule ABCDEFGH = abcdefgh ABCDEFGH |\n",
		"token az 1 1\nrule AZ = az\n",
		named(api.MaxTokens, "token ", 'a', " 1 1") + named(api.MaxNames, "rule ", 'A', " ="),
		named(api.MaxNames, "rule ", 'A', " = | |"),
		"rule S =" + strings.Repeat(" |", api.MaxRules-1) + "\n",
		"rule S =" + strings.Repeat(" S", api.MaxParts) + " |" + strings.Repeat(" S", api.MaxParts) + "\n",
		"rule S =\n" + strings.Repeat("\n", api.MaxText-9),
	} {
		wantChecks(t, []checked{{text, api.OK, 0}})
	}
}

func TestCheckLong(t *testing.T) {
	wantChecks(t, []checked{
		{"rule S =\n" + strings.Repeat("\n", api.MaxText-8), api.ErrLong, 0},
		{strings.Repeat("\n", api.MaxText+1), api.ErrLong, 0},
		{strings.Repeat("é", api.MaxText/2) + "x", api.ErrLong, 0},
		{strings.Repeat("é", api.MaxText/2), api.ErrForm, 0},
		{strings.Repeat("x", 1<<20), api.ErrLong, 0},
	})
}

func TestCheckForm(t *testing.T) {
	for _, bad := range []string{
		" ", "  ", "\t", "\r", "x", "tokens", "Token a 1 1", "rules S =", "\x00", "|", "=",
		"token", "token ", "token a", "token a 1", "token a 1 ", "token a 1 1 ", "token a 1 1 1", "token a 1 1 b",
		" token a 1 1", "token  a 1 1", "token a  1 1", "token a 1  1", "token\ta 1 1", "token a 1 1\r",
		"token A 1 1", "token aB 1 1", "token a1 1 1", "token | 1 1", "token abcdefghi 1 1", "token 1 1", "token  1 1",
		"token é 1 1", "token \xff 1 1", "token ` 1 1", "token { 1 1", "token a\x00 1 1",
		"token a 0 1", "token a 1 0", "token a 00 1", "token a 01 1", "token a 1 01", "token a 100 1", "token a 1 100",
		"token a -1 1", "token a +1 1", "token a 1.0 1", "token a 0x1 1", "token a 1_0 1", "token a b 1", "token a 1 ١",
		"token a 18446744073709551617 1", "token a 4294967297 1", "token a 257 1", "token a : 1", "token a / 1",
		"swap", "swap a", "swap a b", "swap a b ", "swap a b 0", "swap a b 01", "swap a b 100", "swap a b 1 1", "swap a b 1 ",
		"swap A b 1", "swap a B 1", "swap a b c", "swap abcdefghi b 1", "swap a abcdefghi 1", "swap a  1", " swap a b 1",
		"rule", "rule ", "rule S", "rule S ", "rule =", "rule  =", "rule S = ", "rule S =  ", "rule S  =", "rule  S =", " rule S =",
		"rule S a", "rule S | a", "rule S == a", "rule S =a", "rule S= a", "rule s =", "rule Sa =", "rule S1 =", "rule ABCDEFGHI =",
		"rule @ =", "rule [ =", "rule É =", "rule a = a", "rule S = a| S", "rule S = a |S", "rule S = ||", "rule S = a  S",
		"rule S = a ", "rule S = | ", "rule S = aS", "rule S = a1", "rule S = =", "rule S = 1", "rule S = abcdefghi",
		"rule S = ABCDEFGHI", "rule S = é", "rule S =\r", "rule S = a\ta",
	} {
		wantChecks(t, []checked{
			{bad + "\n", api.ErrForm, 0},
			{bad, api.ErrForm, 0},
			{small + bad + "\n", api.ErrForm, len(small)},
			{"\n" + bad + "\n" + small, api.ErrForm, 1},
			{small + bad + "\nx\n", api.ErrForm, len(small)},
		})
	}
}

func TestCheckFormUnended(t *testing.T) {
	wantChecks(t, []checked{
		{small[:len(small)-1], api.ErrForm, 24},
		{"rule S =", api.ErrForm, 0},
		{small + "token c 1 1", api.ErrForm, len(small)},
		{small + "\n\n ", api.ErrForm, len(small) + 2},
		{"x\nrule S =", api.ErrForm, 0},
	})
}

func TestCheckTwice(t *testing.T) {
	wantChecks(t, []checked{
		{"token a 1 1\ntoken a 1 1\n", api.ErrTwice, 12},
		{"token a 1 1\ntoken b 1 1\ntoken a 9 9\nrule S =\n", api.ErrTwice, 24},
		{"rule S =\n\nrule S = S\n", api.ErrTwice, 10},
		{small + "rule T =\nrule S =\ntoken a 1 1\n", api.ErrTwice, len(small) + 9},
		{small + "token b 1 1\nrule S =\n", api.ErrTwice, len(small)},
		{"token aa 1 1\ntoken a 1 1\nrule A =\nrule AA =\n", api.OK, 0},
	})
}

func TestCheckMany(t *testing.T) {
	tokens := named(api.MaxTokens, "token ", 'a', " 1 1")
	names := named(api.MaxNames, "rule ", 'A', " =")
	parts := strings.Repeat(" S", api.MaxParts)
	wantChecks(t, []checked{
		{"", api.ErrMany, 0},
		{"\n", api.ErrMany, 1},
		{"token a 1 1\n", api.ErrMany, 12},
		{"token a 1 1\nswap a b 1\n\n", api.ErrMany, 24},
		{tokens + "\ntoken z 1 1\nrule S =\n", api.ErrMany, len(tokens) + 1},
		{tokens + "token y 1 1\ntoken z 1 1\n", api.ErrMany, len(tokens)},
		{names + "\nrule Z =\ntoken a 1 1\n", api.ErrMany, len(names) + 1},
		{"rule S =" + strings.Repeat(" |", api.MaxRules) + "\n", api.ErrMany, 0},
		{"rule S =" + strings.Repeat(" |", api.MaxRules-1) + "\ntoken a 1 1\nrule T =\nrule U =\n", api.ErrMany, 8 + 2*59 + 1 + 12},
		{names[:19*9] + "rule Z =" + strings.Repeat(" |", 41) + "\n", api.ErrMany, 19 * 9},
		{names[:19*9] + "rule Z =" + strings.Repeat(" |", 40) + "\n", api.OK, 0},
		{"rule S =" + parts + " S\n", api.ErrMany, 0},
		{"rule S = |" + parts + " |" + parts + " S\n", api.ErrMany, 0},
		{"rule T = S\nrule S =" + parts + " S |\nrule U =" + parts + " S\n", api.ErrMany, 11},
	})
}

func TestCheckUnknown(t *testing.T) {
	wantChecks(t, []checked{
		{"rule S = a\n", api.ErrUnknown, 0},
		{"rule S = T\n", api.ErrUnknown, 0},
		{"rule S = | S | S T\n", api.ErrUnknown, 0},
		{"token aa 1 1\nrule S = aa\n\nrule T = a\nrule U = V\n", api.ErrUnknown, 26},
		{"token s 1 1\nrule S = s T\n", api.ErrUnknown, 12},
		{small + "swap c a 1\n", api.ErrUnknown, len(small)},
		{small + "swap a c 1\n", api.ErrUnknown, len(small)},
		{small + "swap b b 1\nswap a c 1\n", api.ErrUnknown, len(small)},
		{"swap a a 1\ntoken a 1 1\nrule S =\n", api.ErrUnknown, 0},
		{"swap a b 1\n" + small + "rule T = c\n", api.ErrUnknown, 11 + len(small)},
	})
}

// TestCheckFirstError: each error ahead of those that the document names behind it, wherever their lines stand.
func TestCheckFirstError(t *testing.T) {
	parts := strings.Repeat(" S", api.MaxParts+1)
	lines := []struct {
		err  api.Errno
		line string
	}{
		{api.ErrForm, "rule X = \n"},
		{api.ErrTwice, "rule S =\n"},
		{api.ErrMany, "rule Y =" + parts + "\n"},
		{api.ErrUnknown, "rule Z = z\n"},
	}
	for i, first := range lines {
		for _, second := range lines[i+1:] {
			wantChecks(t, []checked{
				{small + first.line + second.line, first.err, len(small)},
				{small + second.line + first.line, first.err, len(small) + len(second.line)},
			})
		}
		long := strings.Repeat("\n", api.MaxText)
		wantChecks(t, []checked{{small + first.line + long, api.ErrLong, 0}})
	}
	tokens := named(api.MaxTokens, "token ", 'a', " 1 1")
	wantChecks(t, []checked{
		{tokens + "token z 1 1\ntoken a 1 1\n", api.ErrTwice, len(tokens) + 12},
		{tokens + "token z 1 1\nswap a a 1\n", api.ErrMany, len(tokens)},
		{"swap a a 1\n", api.ErrMany, 11},
		{"swap a a 1\nx", api.ErrForm, 11},
	})
}

var lineForm = regexp.MustCompile(`\A(|token [a-z]{1,8} [1-9][0-9]? [1-9][0-9]?|swap [a-z]{1,8} [a-z]{1,8} [1-9][0-9]?|rule [A-Z]{1,8} =( ([a-z]{1,8}|[A-Z]{1,8}|\|))*)\z`)

// plainCheck is what P3 says, once more, in the slowest way: for each error all lines anew, each with those ahead of it.
func plainCheck(text string) (api.Errno, int) {
	if len(text) > api.MaxText {
		return api.ErrLong, 0
	}
	lines := strings.SplitAfter(text, "\n")
	if lines[len(lines)-1] == "" {
		lines = lines[:len(lines)-1]
	}
	for _, wrong := range []struct {
		err api.Errno
		is  func(lines []string, i int) bool
	}{{api.ErrForm, plainForm}, {api.ErrTwice, plainTwice}, {api.ErrMany, plainMany}, {api.ErrUnknown, plainUnknown}} {
		at := 0
		for i, l := range lines {
			if wrong.is(lines, i) {
				return wrong.err, at
			}
			at += len(l)
		}
		if wrong.err == api.ErrMany && !strings.Contains("\n"+text, "\nrule ") {
			return api.ErrMany, len(text)
		}
	}
	return api.OK, 0
}

func plainForm(lines []string, i int) bool {
	content, ended := strings.CutSuffix(lines[i], "\n")
	return !ended || !lineForm.MatchString(content)
}

// plainGiven is what a line gives: its first two words of a token, its second of a rule.
func plainGiven(line string) string {
	words := strings.Fields(line)
	if len(words) == 0 || words[0] == "swap" {
		return ""
	}
	return words[1]
}

func plainTwice(lines []string, i int) bool {
	given := plainGiven(lines[i])
	for _, l := range lines[:i] {
		if given != "" && plainGiven(l) == given {
			return true
		}
	}
	return false
}

func plainMany(lines []string, i int) bool {
	tokens, names, rules, longest := 0, 0, 0, 0
	for _, l := range lines[:i+1] {
		if strings.HasPrefix(l, "token ") {
			tokens++
		}
		if _, list, ok := strings.Cut(l, "="); ok {
			names++
			for rule := range strings.SplitSeq(list, "|") {
				rules++
				longest = max(longest, len(strings.Fields(rule)))
			}
		}
	}
	return tokens > 20 || names > 20 || rules > 60 || longest > 8
}

func plainUnknown(lines []string, i int) bool {
	words := strings.Fields(strings.ReplaceAll(lines[i], "|", " "))
	switch {
	case len(words) == 0 || words[0] == "token":
		return false
	case words[0] == "swap":
		if words[1] == words[2] {
			return true
		}
		words = words[1:3]
	default:
		words = words[3:]
	}
	for _, w := range words {
		known := false
		for _, l := range lines {
			known = known || plainGiven(l) == w
		}
		if !known {
			return true
		}
	}
	return false
}

// numbers is a row of numbers that is the same each time.
type numbers uint64

func (n *numbers) below(limit int) int {
	*n = *n*6364136223846793005 + 1442695040888963407
	return int(uint64(*n)>>33) % limit
}

func (n *numbers) of(words ...string) string { return words[n.below(len(words))] }

// anyText gives lines of all sorts, most of them right.
func (n *numbers) anyText() string {
	var b strings.Builder
	for range n.below(9) {
		switch n.below(8) {
		case 0, 1, 2:
			b.WriteString("token " + n.of("a", "b", "c", "d", "e", "f") + " 1 " + n.of("1", "99", "10") + "\n")
		case 3:
			b.WriteString("swap " + n.of("a", "b", "c") + " " + n.of("a", "b", "d") + " 5\n")
		case 4:
			b.WriteString("\n")
		default:
			b.WriteString("rule " + n.of("S", "T", "U", "V", "W") + " =")
			for range n.below(12) {
				b.WriteString(" " + n.of("a", "b", "S", "T", "|"))
			}
			if n.below(20) == 0 {
				b.WriteString(strings.Repeat(" |", n.below(70)))
			}
			b.WriteString("\n")
		}
	}
	return b.String()
}

// spoilt puts a byte in, leaves one out or changes one.
func (n *numbers) spoilt(text string) string {
	if text == "" {
		return " "
	}
	at := n.below(len(text))
	switch n.below(3) {
	case 0:
		return text[:at] + n.of(" ", "\n", "|", "=", "a", "S", "0", "9") + text[at:]
	case 1:
		return text[:at] + text[at+1:]
	}
	return text[:at] + n.of(" ", "\n", "|", "b", "T", "0") + text[at+1:]
}

func TestCheckAnyText(t *testing.T) {
	var n numbers = 1
	seen := map[api.Errno]int{}
	for range 30000 {
		text := n.anyText()
		if n.below(4) == 0 {
			text = n.spoilt(text)
		}
		err, at := plainCheck(text)
		seen[err]++
		wantChecks(t, []checked{{text, err, at}})
	}
	wantSeen(t, seen, api.OK, api.ErrForm, api.ErrTwice, api.ErrMany, api.ErrUnknown)
}

// TestCheckAnyByte puts, changes and cuts at each place of a text.
func TestCheckAnyByte(t *testing.T) {
	text := small + "swap a b 1\n"
	for at := range len(text) + 1 {
		err, place := plainCheck(text[:at])
		wantChecks(t, []checked{{text[:at], err, place}})
		for b := range 256 {
			put := text[:at] + string([]byte{byte(b)}) + text[at:]
			err, place := plainCheck(put)
			wantChecks(t, []checked{{put, err, place}})
			if at < len(text) {
				changed := text[:at] + string([]byte{byte(b)}) + text[at+1:]
				err, place := plainCheck(changed)
				wantChecks(t, []checked{{changed, err, place}})
			}
		}
	}
}
