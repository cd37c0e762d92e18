package source

import "darn/api"

// Check tells whether a text is a grammar, and if not, where.
func Check(text string) (api.Errno, int) {
	_, err, at := checkedLines(text)
	return err, at
}

// checkedLines gives a grammar's lines, or what is wrong with it and where.
func checkedLines(text string) ([]line, api.Errno, int) {
	if len(text) > api.MaxText {
		return nil, api.ErrLong, 0
	}
	lines, end := readLines(text)
	if end < len(text) {
		return nil, api.ErrForm, end
	}
	if at, found := firstTwice(lines); found {
		return nil, api.ErrTwice, at
	}
	if at, found := firstMany(lines); found {
		return nil, api.ErrMany, at
	}
	if !hasName(lines) {
		return nil, api.ErrMany, len(text)
	}
	if at, found := firstUnknown(lines); found {
		return nil, api.ErrUnknown, at
	}
	return lines, api.OK, 0
}

// firstTwice is the place of the first line that gives what an earlier one gave.
func firstTwice(lines []line) (int, bool) {
	given := map[string]int{}
	for _, l := range lines {
		word := l.gives()
		if word == "" {
			continue
		}
		if given[word]++; given[word] > 1 {
			return l.at, true
		}
	}
	return 0, false
}

// firstMany is the place of the first line with which there is more of something than there may be.
func firstMany(lines []line) (int, bool) {
	tokens, names, rules := 0, 0, 0
	for _, l := range lines {
		longest := 0
		switch l.shape {
		case tokenLine:
			tokens++
		case ruleLine:
			names++
			for _, rule := range l.rules() {
				rules++
				longest = max(longest, len(rule))
			}
		}
		if tokens > api.MaxTokens || names > api.MaxNames || rules > api.MaxRules || longest > api.MaxParts {
			return l.at, true
		}
	}
	return 0, false
}

func hasName(lines []line) bool {
	for _, l := range lines {
		if l.shape == ruleLine {
			return true
		}
	}
	return false
}

// firstUnknown is the place of the first line with what no line gives, or with a swap of a token to itself.
func firstUnknown(lines []line) (int, bool) {
	given := map[string]int{}
	for _, l := range lines {
		if word := l.gives(); word != "" {
			given[word]++
		}
	}
	for _, l := range lines {
		if l.shape == swapLine && l.words[0] == l.words[1] {
			return l.at, true
		}
		for _, word := range l.uses() {
			if given[word] == 0 {
				return l.at, true
			}
		}
	}
	return 0, false
}
