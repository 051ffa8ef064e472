package script

import (
	"strconv"
	"strings"

	"patina/api"
)

// line is a line that is read word by word. Where it is amiss its readers throw the fault, which Parse catches.
type line struct {
	number int
	bytes  string
	at     int // what stands ahead of it has been read
}

// step is the line's step; false, if it has no words.
func (l *line) step() (api.Step, bool) {
	word, at := l.word()
	if word == "" {
		return api.Step{}, false
	}
	kind := kindOf(word)
	if kind == 0 {
		l.giveUp(at, api.ErrWord)
	}
	var read [2]int
	for i := range numbers(kind) {
		read[i] = l.due()
	}
	if word, at := l.word(); word != "" {
		l.giveUp(at, api.ErrBehind)
	}
	return api.Step{Kind: kind, A: read[0], B: read[1]}, true
}

// due is the number that stands next.
func (l *line) due() int {
	word, at := l.word()
	if word == "" {
		l.giveUp(at, api.ErrDue)
	}
	number, err := strconv.Atoi(word)
	// A number can be written in one way alone: what is told otherwise had a sign or noughts too many.
	if err != nil || strconv.Itoa(number) != word {
		l.giveUp(at, api.ErrNumber)
	}
	return number
}

// word is the next word, and where it begins; without one it is empty, and stands where the remark begins, or at the line's length.
func (l *line) word() (string, int) {
	for l.at < len(l.bytes) && l.bytes[l.at] == ' ' {
		l.at++
	}
	begin := l.at
	rest := l.bytes[begin:]
	if strings.HasPrefix(rest, "#") {
		return "", begin
	}
	word, _, _ := strings.Cut(rest, " ")
	l.at += len(word)
	return word, begin
}

// giveUp throws what is amiss at a byte of the line.
func (l *line) giveUp(at int, code api.Code) {
	panic(&api.Fault{Line: l.number, At: at, Err: code})
}
