package script_test

import (
	"strconv"
	"strings"
	"testing"

	"patina/api"
)

// P21.2, of texts in which something is amiss.

// leads are lines that may stand ahead of any other one, with how many they are.
func leads() map[string]int {
	return map[string]int{
		"": 0, "\n": 1, "mount\n": 1, "\n\n\n": 3, "# raed\n": 1, "read 3\n\n  # so\n write 1 2 # x\n": 4, "   \n#\n": 2,
	}
}

// wantAmiss asks for a line's fault, alone, as the last of several lines, and with others behind it, be they right or wrong.
func wantAmiss(t *testing.T, line string, at int, code api.Code) {
	t.Helper()
	for lead, lines := range leads() {
		for _, behind := range []string{"", "\n", "\n\n", "\nmount", "\nraed", "\nread\nread 03"} {
			wantFault(t, lead+line+behind, fault{lines + 1, at, code})
		}
	}
}

// noWords are words that are no kind's.
func noWords() []string {
	words := []string{
		"raed", "x", "-", "0", "1", "3", "-1", "mount1", "\t", "\r", "\x00", "\xff", "\v", "\f", "\u00a0", "\u2003", "ä", "read\u00a0", "read\t3", "mount\r", "\tmount", "\rmount", "\ufeffmount",
		"reads", "readx", "read#", "mount#so", "read3", "read-3", "read,", "read:", "fail", "failp", "prog", "program", "erase", "step", "fill", "writewrite", "powermount", "fai1erase",
		strings.Repeat("x", 5000), strings.Repeat("mount", 1000),
	}
	for _, of := range forms() {
		words = append(words, strings.ToUpper(of.word), strings.ToUpper(of.word[:1])+of.word[1:], of.word+"x", of.word+"#", "x"+of.word, of.word[1:], of.word[:len(of.word)-1], of.word+"\r", of.word+"\t", of.word+"\x00", "\x00"+of.word, strconv.Itoa(of.kind))
	}
	return words
}

func TestNoWord(t *testing.T) {
	for _, word := range noWords() {
		for _, blanks := range []string{"", " ", "    "} {
			wantAmiss(t, blanks+word, len(blanks), api.ErrWord)
			wantAmiss(t, blanks+word+" ", len(blanks), api.ErrWord)
			wantAmiss(t, blanks+word+" 3", len(blanks), api.ErrWord)
			wantAmiss(t, blanks+word+" x 03 mount # so", len(blanks), api.ErrWord)
		}
	}
}

// Every byte but the blank and #: as a word alone, and directly behind a kind's word, it is no kind's; nor is it a blank between words.
func TestEveryByte(t *testing.T) {
	for b := range 256 {
		c := string([]byte{byte(b)})
		if c == "\n" || c == " " || c == "#" {
			continue
		}
		wantFault(t, c, fault{1, 0, api.ErrWord})
		wantFault(t, "  "+c+" # so", fault{1, 2, api.ErrWord})
		wantFault(t, c+"mount", fault{1, 0, api.ErrWord})
		wantFault(t, "mount"+c, fault{1, 0, api.ErrWord})
		wantFault(t, "read"+c+"3", fault{1, 0, api.ErrWord})
		wantFault(t, "mount "+c, fault{1, 6, api.ErrBehind})
		if b < '0' || b > '9' {
			wantFault(t, "read "+c, fault{1, 5, api.ErrNumber})
			wantFault(t, "read 3"+c, fault{1, 5, api.ErrNumber})
			wantFault(t, "flip 3"+c+"4", fault{1, 5, api.ErrNumber})
			if b != '-' {
				wantFault(t, "read "+c+"3", fault{1, 5, api.ErrNumber})
			}
		} else {
			wantParse(t, "read "+c, []api.Step{{Kind: 1, A: b - '0'}})
		}
	}
}

// In the midst of a word # begins no remark.
func TestNoRemarkInTheMidst(t *testing.T) {
	wantAmiss(t, "mount#", 0, api.ErrWord)
	wantAmiss(t, "read#3", 0, api.ErrWord)
	wantAmiss(t, "read# 3", 0, api.ErrWord)
	wantAmiss(t, "read 3#", 5, api.ErrNumber)
	wantAmiss(t, "read 3# so", 5, api.ErrNumber)
	wantAmiss(t, "  flip 3 4#5", 9, api.ErrNumber)
	wantAmiss(t, "mount x#", 6, api.ErrBehind)
	wantAmiss(t, "-# mount", 0, api.ErrWord)
}

// A number is due where the remark begins, or at the line's length, with all blanks behind the last word.
func TestDue(t *testing.T) {
	for _, of := range forms() {
		for given := range of.numbers {
			words := of.word + strings.Repeat(" -17", given)
			for _, ahead := range []string{"", " ", "     "} {
				for _, behind := range []string{"", " ", "  ", "          "} {
					line := ahead + words + behind
					wantAmiss(t, line, len(line), api.ErrDue)
					if behind != "" {
						for _, remark := range []string{"#", "# 3", "#3 4", "#  # ", "## 1 2 3   "} {
							wantAmiss(t, line+remark, len(line), api.ErrDue)
						}
					}
				}
			}
		}
	}
	wantAmiss(t, "flip 3", 6, api.ErrDue)
	wantAmiss(t, "flip 3  ", 8, api.ErrDue)
	wantAmiss(t, "flip 3  # 4", 8, api.ErrDue)
	wantAmiss(t, "flip", 4, api.ErrDue)
	wantAmiss(t, "read #3", 5, api.ErrDue)
}

// noNumbers are words that are no number, or none that may be.
func noNumbers() []string {
	return []string{
		"00", "01", "03", "007", "0000", "-0", "-00", "-01", "-007", "-", "--", "--1", "-+1", "+", "+1", "+0", "+-1", "++1", "1-", "1-1", "1+1",
		"x", "a", "f", "1a", "a1", "0x1", "0X1", "0b1", "0o7", "0x", "1e3", "1.0", "1.", ".1", "1,0", "1_000", "_1", "1_", "1'000", "0_1", "nan", "inf", "read", "mount", "\u0661", "\uff11", "1\u00a0",
		"3#", "3#4", "-#", "1\r", "1\t", "\t1", "1\x00", "\x001", "\xff",
		"9223372036854775808", "9223372036854775809", "9223372036854775810", "10000000000000000000", "18446744073709551615", "18446744073709551616", "18446744073709551617", "99999999999999999999",
		"-9223372036854775809", "-9223372036854775810", "-18446744073709551615", "-18446744073709551616", "-99999999999999999999",
		"340282366920938463463374607431768211456", "340282366920938463463374607431768211459", "-340282366920938463463374607431768211456",
		strings.Repeat("9", 1000), "-" + strings.Repeat("9", 1000), "1" + strings.Repeat("0", 5000), strings.Repeat("0", 5000), "-" + strings.Repeat("0", 5000) + "1", strings.Repeat("0", 40) + "7",
	}
}

func TestNoNumber(t *testing.T) {
	for _, word := range noNumbers() {
		wantAmiss(t, "read "+word, 5, api.ErrNumber)
		wantAmiss(t, "  read   "+word+"  # so", 9, api.ErrNumber)
		wantAmiss(t, "flip "+word, 5, api.ErrNumber)
		wantAmiss(t, "flip "+word+" 3", 5, api.ErrNumber)
		wantAmiss(t, "flip 3 "+word, 7, api.ErrNumber)
		wantAmiss(t, "write -12 "+word+" 4", 10, api.ErrNumber)
	}
	// Of every kind, at each of its numbers.
	for _, of := range forms() {
		for given := range of.numbers {
			line := of.word + strings.Repeat(" 5", given) + " "
			wantAmiss(t, line+"05", len(line), api.ErrNumber)
			wantAmiss(t, line+"x", len(line), api.ErrNumber)
		}
	}
}

// A word behind all numbers, be it a number or none.
func TestBehind(t *testing.T) {
	for _, of := range forms() {
		for _, blanks := range []string{" ", "   "} {
			line := blanks + of.word + strings.Repeat(blanks+"-8", of.numbers) + blanks
			for _, word := range append([]string{"0", "1", "-1", "x", "mount", of.word, "01", "-", "3#", "x#", "\t", "\r"}, noNumbers()...) {
				wantAmiss(t, line+word, len(line), api.ErrBehind)
			}
			wantAmiss(t, line+"1 # so", len(line), api.ErrBehind)
			wantAmiss(t, line+"1 2 x  ", len(line), api.ErrBehind)
		}
	}
}

// Of several things amiss in one line the first from the left.
func TestTheFirstFromTheLeft(t *testing.T) {
	for line, want := range map[string]fault{
		"raed":             {1, 0, api.ErrWord},
		"raed x":           {1, 0, api.ErrWord},
		" raed 03 4 5":     {1, 1, api.ErrWord},
		"flip x":           {1, 5, api.ErrNumber},
		"flip x 4 5":       {1, 5, api.ErrNumber},
		"flip 03 04 05":    {1, 5, api.ErrNumber},
		"flip 3 04 05":     {1, 7, api.ErrNumber},
		"flip 3 4 05":      {1, 9, api.ErrBehind},
		"flip 3 4 5 6":     {1, 9, api.ErrBehind},
		"mount x y":        {1, 6, api.ErrBehind},
		"flip - # 4 5":     {1, 5, api.ErrNumber},
		"read # x":         {1, 5, api.ErrDue},
		"write  1  #2 3 4": {1, 10, api.ErrDue},
	} {
		wantFault(t, line, want)
	}
}

// Of several lines amiss the first one; lines without words are counted, too.
func TestTheFirstLine(t *testing.T) {
	lines := map[string]fault{
		"raed":     {0, 0, api.ErrWord},
		"  flip 3": {0, 8, api.ErrDue},
		"trim 03":  {0, 5, api.ErrNumber},
		"mount 1":  {0, 6, api.ErrBehind},
	}
	passed := []string{"", " ", "#", "  # raed", "mount", "read 3 # 4"}
	for first, want := range lines {
		for second := range lines {
			for count := range 40 {
				var text string
				for i := range count {
					text += passed[i*i%len(passed)] + "\n"
				}
				want.line = count + 1
				wantFault(t, text+first, want)
				wantFault(t, text+first+"\n", want)
				wantFault(t, text+first+"\n"+second, want)
				wantFault(t, text+first+"\n\nmount\n"+second+"\n", want)
			}
		}
	}
}

// A fault in the last line of a text of 65536 bytes, and far to the right in it.
func TestFaultsFarBehind(t *testing.T) {
	wantFault(t, strings.Repeat("\n", 65535)+"x", fault{65536, 0, api.ErrWord})
	wantFault(t, strings.Repeat(" ", 65535)+"x", fault{1, 65535, api.ErrWord})
	wantFault(t, "read"+strings.Repeat(" ", 65532), fault{1, 65536, api.ErrDue})
	wantFault(t, "read"+strings.Repeat(" ", 65531)+"#", fault{1, 65535, api.ErrDue})
	wantFault(t, "mount"+strings.Repeat(" ", 65530)+"1", fault{1, 65535, api.ErrBehind})
	wantFault(t, "read "+strings.Repeat("1", 65531), fault{1, 5, api.ErrNumber})
	wantFault(t, strings.Repeat("mount\n", 10000)+"mount 1", fault{10001, 6, api.ErrBehind})
	wantFault(t, strings.Repeat("x", 65536), fault{1, 0, api.ErrWord})
}

// The fault tells itself, and gives its Code.
func TestFaultIsWrapped(t *testing.T) {
	for text, code := range map[string]api.Code{"raed": api.ErrWord, "read": api.ErrDue, "read x": api.ErrNumber, "mount 1": api.ErrBehind} {
		wantWrapped(t, text, code)
	}
}
