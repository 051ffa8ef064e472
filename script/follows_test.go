package script_test

import (
	"strconv"
	"strings"
	"testing"

	"patina/api"
	"patina/script"
)

// P21.4.

// Parse of Text(l), where that has at most 65536 bytes, is l.
func TestStepsComeBack(t *testing.T) {
	s := source(31)
	for _, count := range []int{0, 1, 2, 3, 10, 100, 1000} {
		for range 40 {
			l := s.steps(count)
			text, err := script.Text(l)
			if err != nil || len(text) > 65536 {
				t.Fatalf("Text of %d steps: %d bytes, %v", count, len(text), err)
			}
			wantParse(t, text, l)
			wantText(t, l, written(l))
		}
	}
	for _, step := range every() {
		text, err := script.Text([]api.Step{step})
		if err != nil {
			t.Fatalf("Text(%v): %v", step, err)
		}
		wantParse(t, text, []api.Step{step})
	}
}

// loose is a text of the same steps, with blanks more, remarks, and lines without words.
func (s *source) loose(l []api.Step) string {
	var text strings.Builder
	for _, step := range l {
		for s.below(3) == 0 {
			text.WriteString(s.blanks() + s.remark() + "\n")
		}
		of := forms()[step.Kind-1]
		text.WriteString(s.blanks() + of.word)
		for _, n := range []int{step.A, step.B}[:of.numbers] {
			text.WriteString(" " + s.blanks() + strconv.Itoa(n))
		}
		if s.below(2) == 0 {
			text.WriteString(" " + s.blanks() + s.remark())
		}
		text.WriteString("\n")
	}
	if s.below(2) == 0 {
		return text.String() + s.blanks() + s.remark()
	}
	return strings.TrimSuffix(text.String(), "\n")
}

// Blanks more, remarks, and lines without words change nothing of what is read; Text of what Parse answers is read as the same.
func TestLooseTexts(t *testing.T) {
	s := source(32)
	for turn := range 3000 {
		l := s.steps(turn % 60)
		text := s.loose(l)
		wantParse(t, text, l)
		wantSame(t, text)
	}
}

// wantSame reads a text, if it can be read, and what Text makes of that.
func wantSame(t *testing.T, text string) {
	t.Helper()
	l, err := script.Parse(text)
	if err != nil {
		return
	}
	again, err := script.Text(l)
	if err != nil {
		t.Fatalf("Text of Parse(%s): %v", short(text), err)
	}
	wantParse(t, again, l)
	wantText(t, l, again)
}

// piece is a piece of a line, right or wrong.
func (s *source) piece() string {
	switch s.below(14) {
	case 0, 1, 2, 3:
		return forms()[s.below(10)].word
	case 4, 5, 6:
		return strconv.Itoa(s.number())
	case 7:
		return noNumbers()[s.below(len(noNumbers()))]
	case 8:
		return noWords()[s.below(len(noWords()))]
	case 9:
		return "#"
	case 10:
		return "\n"
	case 11:
		return string([]byte{byte(s.below(256))})
	default:
		return ""
	}
}

// Any pieces, one behind the other: the answer is as told.
func TestAnyPieces(t *testing.T) {
	s := source(33)
	for range 60000 {
		var text string
		for range s.below(12) {
			text += s.piece()
			if s.below(3) > 0 {
				text += " "
			}
			if s.below(5) == 0 {
				text += "\n"
			}
		}
		wantAsTold(t, text)
		wantSame(t, text)
	}
}

// Any letters of a few: lines that are right are rare, their edges are met often.
func TestAnyLetters(t *testing.T) {
	s := source(34)
	letters := " \n#-01x"
	for range 60000 {
		text := []byte("cut 7\n")[s.below(7):]
		text = append(text, "trim "[s.below(6):]...)
		for range s.below(9) {
			text = append(text, letters[s.below(len(letters))])
		}
		wantAsTold(t, string(text))
	}
}

// All texts of few letters behind a word with one number, and behind one with none.
func TestAllShortTexts(t *testing.T) {
	letters := []byte(" \n#-05x")
	for _, lead := range []string{"", "cut", "cut ", "flip 1 ", "power", "power "} {
		texts := []string{lead}
		for range 4 {
			var longer []string
			for _, text := range texts {
				wantAsTold(t, text)
				for _, letter := range letters {
					longer = append(longer, text+string(letter))
				}
			}
			texts = longer
		}
		for _, text := range texts {
			wantAsTold(t, text)
		}
	}
}

// A text that is right, in which one byte is changed, taken away, or put in.
func TestOneByteOtherwise(t *testing.T) {
	s := source(35)
	for range 300 {
		text := s.loose(s.steps(1 + s.below(6)))
		for range 60 {
			if len(text) == 0 {
				break
			}
			at := s.below(len(text))
			letter := " \n#-+0123456789readxRM\t\r\x00"[s.below(25):][:1]
			wantAsTold(t, text[:at]+letter+text[at+1:])
			wantAsTold(t, text[:at]+text[at+1:])
			wantAsTold(t, text[:at]+letter+text[at:])
		}
	}
}
