package timetable

import (
	"strconv"
	"strings"

	"guideway/api"
)

// eventWord is the first word of the line of an event.
const eventWord = "event"

// openWord stands for TimetableOpen.
const openWord = "-"

// maxDigits is how many digits a number in a text has at most.
const maxDigits = 6

// kindWords are the words of the kinds of activities.
var kindWords = [api.TimetableKinds]string{
	api.TimetableRun:     "run",
	api.TimetableStop:    "stop",
	api.TimetableConnect: "connect",
	api.TimetableHeadway: "headway",
	api.TimetableTurn:    "turn",
}

// Print returns the text of a net.
func Print(n api.TimetableNet) (string, api.Errno) {
	c, err := check(n)
	if err != api.OK {
		return "", err
	}
	var out strings.Builder
	for _, name := range c.Events {
		out.WriteString(eventWord + " " + name + "\n")
	}
	for _, a := range c.Activities {
		out.WriteString(strings.Join(c.wordsOf(a), " ") + "\n")
	}
	return out.String(), api.OK
}

// wordsOf returns the words of the line of an activity.
func (c checkedNet) wordsOf(a api.TimetableActivity) []string {
	most := openWord
	if a.Most != api.TimetableOpen {
		most = strconv.Itoa(a.Most)
	}
	words := []string{kindWords[a.Kind], c.Events[a.From], c.Events[a.To], strconv.Itoa(a.Least), most}
	if a.Kind == api.TimetableConnect {
		words = append(words, strconv.Itoa(a.Wait))
	}
	return words
}

// kindOf returns the kind of a word, false if it is the word of none.
func kindOf(word string) (int, bool) {
	for kind, known := range kindWords {
		if word == known {
			return kind, true
		}
	}
	return 0, false
}

// FormatDelay returns the text of a delay.
func FormatDelay(x api.TimetableDelay) string {
	return strconv.Itoa(x.Event) + " " + strconv.Itoa(x.By)
}

// ParseDelay returns the delay with a text.
func ParseDelay(s string) (api.TimetableDelay, api.Errno) {
	event, by, _ := strings.Cut(s, " ") // without a blank, or with a further one, the second word is no number
	if !isNumber(event) || !isNumber(by) {
		return api.TimetableDelay{}, api.ErrSyntax
	}
	x := api.TimetableDelay{Event: valueOf(event), By: valueOf(by)}
	if !isDelay(x.By) {
		return api.TimetableDelay{}, api.ErrRange
	}
	return x, api.OK
}

// isName tells whether a word is a name.
func isName(word string) bool {
	for i := range len(word) {
		isOther := isDigit(word[i]) || word[i] == '-'
		if !isLetter(word[i]) && (i == 0 || !isOther) {
			return false
		}
	}
	return within(len(word), 1, api.MaxName)
}

// isNumber tells whether a word is a number without a sign: at most maxDigits digits, no zero in front of others.
func isNumber(word string) bool {
	for i := range len(word) {
		if !isDigit(word[i]) || i > 0 && word[0] == '0' {
			return false
		}
	}
	return within(len(word), 1, maxDigits)
}

// valueOf returns the number that a right word tells.
func valueOf(word string) int {
	number, _ := strconv.Atoi(word)
	return number
}

func isLetter(b byte) bool {
	return b >= 'a' && b <= 'z' || b >= 'A' && b <= 'Z'
}

func isDigit(b byte) bool {
	return b >= '0' && b <= '9'
}
