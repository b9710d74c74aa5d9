package lock

import (
	"slices"
	"strconv"
	"strings"

	"guideway/api"
)

// none is the word for no switches, and for a train that is not on the line.
const none = "-"

// maxDigits is how many digits a number in a text has at most.
const maxDigits = 4

// kindWords are the words of the kinds of events.
var kindWords = [api.LockKinds]string{
	api.LockPlace:   "place",
	api.LockRequest: "request",
	api.LockTurn:    "turn",
	api.LockEnter:   "enter",
	api.LockLeave:   "leave",
	api.LockGive:    "give",
	api.LockTake:    "take",
}

// FormatEvent returns the text of an event, "" if its kind is none.
func FormatEvent(e api.LockEvent) string {
	if !isKind(e.Kind) {
		return ""
	}
	numbers := []int{e.A, e.B}
	return kindWords[e.Kind] + " " + strings.Join(written(numbers[:told(e.Kind)], strconv.Itoa), " ")
}

// ParseEvent returns the event with a text.
func ParseEvent(s string) (api.LockEvent, api.Errno) {
	words := strings.Split(s, " ")
	numbers, ok := read(words[1:], numberOf)
	for kind, word := range kindWords {
		if ok && word == words[0] && len(numbers) == told(kind) {
			numbers = append(numbers, 0) // what is not told is 0
			return api.LockEvent{Kind: kind, A: numbers[0], B: numbers[1]}, api.OK
		}
	}
	return api.LockEvent{}, api.ErrSyntax
}

// told returns how many numbers the text of an event of a kind has.
func told(kind int) int {
	switch kind {
	case api.LockPlace, api.LockRequest, api.LockTurn:
		return 2
	}
	return 1
}

// FormatState returns the text of a state.
func FormatState(x api.LockState) string {
	words := []string{switchesWord(x.Switches), strconv.Itoa(x.Counter)}
	return strings.Join(slices.Concat(words, written(x.Trains, trainWord)), " ")
}

// ParseState returns the state with a text.
func ParseState(s string) (api.LockState, api.Errno) {
	words := strings.Split(s, " ")
	if len(words) < 3 {
		return api.LockState{}, api.ErrSyntax
	}
	switches, ok := switchesOf(words[0])
	counter, isNumber := numberOf(words[1])
	trains, areTrains := read(words[2:], trainOf)
	if !ok || !isNumber || !areTrains {
		return api.LockState{}, api.ErrSyntax
	}
	return api.LockState{Switches: switches, Trains: trains, Counter: counter}, api.OK
}

func switchesWord(lie []int) string {
	if len(lie) == 0 {
		return none
	}
	return strings.Join(written(lie, positionWord), "")
}

func positionWord(position int) string {
	if !isPosition(position) {
		return "?"
	}
	return strconv.Itoa(position)
}

// switchesOf returns how the switches of a word lie.
func switchesOf(word string) ([]int, bool) {
	switch word {
	case "":
		return nil, false
	case none:
		return nil, true
	}
	return read(strings.Split(word, ""), positionOf)
}

func positionOf(word string) (int, bool) {
	position, ok := numberOf(word)
	return position, ok && isPosition(position)
}

func trainWord(t api.LockTrain) string {
	if len(t.Chain) == 0 && t.Under == 0 {
		return none
	}
	return strconv.Itoa(t.Under) + ":" + strings.Join(written(t.Chain, strconv.Itoa), ",")
}

// trainOf returns the train of a word.
func trainOf(word string) (api.LockTrain, bool) {
	if word == none {
		return api.LockTrain{}, true
	}
	head, tail, _ := strings.Cut(word, ":") // without ":" the chain is "", which is no number
	under, ok := numberOf(head)
	chain, areNumbers := read(strings.Split(tail, ","), numberOf)
	return api.LockTrain{Chain: chain, Under: under}, ok && areNumbers
}

// numberOf returns the number of a word: digits, no zero in front of others.
func numberOf(word string) (int, bool) {
	if word == "" || len(word) > maxDigits || word[0] == '0' && len(word) > 1 {
		return 0, false
	}
	for i := range len(word) {
		if !within(int(word[i]), '0', '9') {
			return 0, false
		}
	}
	number, err := strconv.Atoi(word)
	return number, err == nil
}

// isName returns whether a word is a name.
func isName(word string) bool {
	for i := range len(word) {
		isLetter := within(int(word[i]), 'a', 'z') || within(int(word[i]), 'A', 'Z')
		isOther := within(int(word[i]), '0', '9') || word[i] == '-'
		if !isLetter && (i == 0 || !isOther) {
			return false
		}
	}
	return within(len(word), 1, api.MaxName)
}
