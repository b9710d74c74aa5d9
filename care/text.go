package care

import (
	"strconv"
	"strings"

	"guideway/api"
)

// How many digits numbers in texts have at most.
const (
	eventDigits   = 10
	findingDigits = 9
)

// findingWords is how many words the text of a finding has.
const findingWords = 4

// FormatEvent returns the text of an event, "" if its kind is none.
func FormatEvent(e api.CareEvent) string {
	if !isKind(e.Kind) {
		return ""
	}
	k := kinds()[e.Kind]
	switch k.uses {
	case usesPlace:
		return k.word + " " + strconv.Itoa(e.Place)
	case usesDoor:
		return k.word + " " + strconv.Itoa(e.Door)
	}
	return k.word
}

// ParseEvent returns the event with a text.
func ParseEvent(s string) (api.CareEvent, api.Errno) {
	word, told, isTold := strings.Cut(s, " ")
	for number, k := range kinds() {
		if k.word != word || isTold != (k.uses != usesNothing) {
			continue
		}
		if e, ok := k.eventOf(number, told); ok {
			return e, api.OK
		}
	}
	return api.CareEvent{}, api.ErrSyntax
}

// eventOf returns the event of a kind of which a word tells what it uses.
func (k kind) eventOf(number int, told string) (api.CareEvent, bool) {
	if k.uses == usesNothing {
		return api.CareEvent{Kind: number}, true
	}
	used, ok := numberOf(told, eventDigits)
	if !ok || used < 0 {
		return api.CareEvent{}, false
	}
	if k.uses == usesPlace {
		return api.CareEvent{Kind: number, Place: used}, true
	}
	return api.CareEvent{Kind: number, Door: used}, true
}

// FormatFinding returns the text of a finding.
func FormatFinding(f api.CareFinding) string {
	return strings.Join([]string{f.Name, strconv.Itoa(f.Date), strconv.Itoa(f.Beam), strconv.Itoa(f.Off)}, " ")
}

// ParseFinding returns the finding with a text.
func ParseFinding(s string) (api.CareFinding, api.Errno) {
	words := strings.Split(s, " ")
	if len(words) != findingWords || words[0] == "" {
		return api.CareFinding{}, api.ErrSyntax
	}
	var numbers [findingWords - 1]int
	for i, word := range words[1:] {
		number, ok := numberOf(word, findingDigits)
		if !ok {
			return api.CareFinding{}, api.ErrSyntax
		}
		numbers[i] = number
	}
	f := api.CareFinding{Name: words[0], Date: numbers[0], Beam: numbers[1], Off: numbers[2]}
	if err := errorOfFinding(f); err != api.OK {
		return api.CareFinding{}, err
	}
	return f, api.OK
}

// numberOf returns the number of a word with at most so many digits. A number is written in one way only: so a word with
// zeros in front, with "+" or "-0" is none.
func numberOf(word string, digits int) (int, bool) {
	number, err := strconv.Atoi(word)
	if err != nil || strconv.Itoa(number) != word || len(strings.TrimPrefix(word, "-")) > digits {
		return 0, false
	}
	return number, true
}

// isName returns whether a word is a name.
func isName(word string) bool {
	for i := range len(word) {
		isLetter := within(int(word[i]), 'a', 'z') || within(int(word[i]), 'A', 'Z')
		isOther := within(int(word[i]), '0', '9') || word[i] == '-'
		if !isLetter && (i == 0 || !isOther) {
			return false
		}
	}
	return within(len(word), 1, api.MaxName)
}
