package script_test

import (
	"strings"
	"testing"
)

// forms has each command once, its words well formed.
func forms() []string {
	return append(append([]string{"make 2 2 1024 2 2 100", "open 2 aries", "open 2 choose", "clean -5", "crash -1 1,-2,30"}, engineLines...), diskLines...)
}

func TestWordsTooFewOrTooMany(t *testing.T) { // P30.1: ahead of what the command wants
	for _, line := range forms() {
		for _, k := range []*talk{begun(t), of(t, small), of(t, small, "crash 0 -")} {
			words := strings.Split(line, " ")
			k.says(line+" 1", isNoLine)
			k.says(line+" -", isNoLine)
			k.says(line+" # no", isNoLine)
			for n := 1; n < len(words); n++ {
				k.says(strings.Join(words[:n], " "), isNoLine)
			}
			if len(words) > 1 {
				k.says(words[0]+" "+strings.Join(words, " "), isNoLine)
			}
		}
	}
}

func TestNames(t *testing.T) { // P30.1: a name is that name alone
	for _, line := range forms() {
		k := of(t, small, "copy")
		name, rest, _ := strings.Cut(line, " ")
		for _, other := range []string{name + "s", name[1:], name[:len(name)-1], strings.ToUpper(name), strings.ToUpper(name[:1]) + name[1:], "x" + name, name + "\x00", name + "\r", "-" + name, "'" + name + "'", name + "#", name + ","} {
			if other != "" {
				k.says(other+" "+rest, isNoLine)
				k.says(other, isNoLine)
			}
		}
	}
	begun(t).all("frob", isNoLine, "3", isNoLine, "-", isNoLine, "N", isNoLine, "//", isNoLine, "ok", isNoLine, "error 300", isNoLine, "\x00", isNoLine, "\xff\xfe", isNoLine, "π", isNoLine)
}

func TestBlanks(t *testing.T) { // P30.1: words are parted by runs of bytes 9 and 32, and by no other bytes
	k := of(t, small)
	k.all(" begin 3", "ok", "begin\t4  ", "ok", "\t put\t\t3 \t 8 5\t 0\t", "ok", "get  3\t8 0", "value 5", "  ids\t", "ids 3 4")
	for _, b := range []string{"\r", "\v", "\f", "\x00", "\x1c", "\u00a0", "\u0085", "\u2003", "\u3000", "\ufeff", "\xa0", "\x85", "_", ",", ";"} {
		k.says("get"+b+"3 8 0", isNoLine)
		k.says("get 3"+b+"8 0", isNoLine)
		k.says("get 3 8"+b+" 0", isNoLine)
		k.says("get 3 8 0"+b, isNoLine)
		k.says(b+"get 3 8 0", isNoLine)
		k.says(b, isNoLine)
		k.says("ids"+b, isNoLine)
	}
}

func TestSilentLines(t *testing.T) { // P30.1: a line without words, or whose first word begins with #
	for _, k := range []*talk{begun(t), of(t, small), of(t, small, "crash 0 -")} {
		for _, line := range []string{"", " ", "\t", " \t \t", "#", "##", "# ", "#make 1 1 1024 2 1 1", "# make 1 1 1024 2 1 1", "\t #crash 0 -", "#\r\x00\xff", "  # π"} {
			k.says(line, "")
			if got := k.s.Do(line); len(got) != 0 {
				t.Errorf("%q: %d lines", line, len(got))
			}
		}
		k.all("ids #", isNoLine, "begin #3", isNoLine, "\v# no", isNoLine)
	}
}

func TestByteTen(t *testing.T) { // P30.1: a line that holds one, wherever it is
	k := of(t, small)
	for _, line := range []string{"\n", "ids\n", "\nids", "begin\n3", "begin 3\n", "i\nds", "# no\n", "#\n", " \n ", "\t\n", "begin 3\nbegin 4", "ids\r\n", "begin 3\n#"} {
		k.says(line, isNoLine)
	}
	k.says("ids", "ids")
}

// noNumbers are words that are no N; those of notInRange would be V.
var (
	noNumbers  = []string{"", "-", "--1", "+1", "+0", "-0", "00", "01", "-01", "007", "1.0", "1.", ".1", "1e3", "0x1", "0b1", "0o7", "1_0", "1-", "1-1", "a", "1a", "a1", "- 1", "１", "٣", "1\x00", "1\r", "'1'", "2147483648", "-2147483649", "4294967296", "4294967299", "9223372036854775808", "18446744073709551616", "18446744073709551619", "-18446744073709551613", strings.Repeat("9", 1000), "0" + strings.Repeat("0", 1000), "1,2", "1,", ",1", ",", "NaN", "Inf", "aries"}
	notInRange = []string{"2147483648", "4294967296", "4294967299", "9223372036854775808"}
)

// with has a word in the place of one of a line's.
func with(line string, at int, word string) string {
	words := strings.Split(line, " ")
	words[at] = word
	return strings.Join(words, " ")
}

func TestNumbers(t *testing.T) { // P30.1: N, in each place of each command
	for _, line := range []string{"make 2 2 1024 2 2 100", "open 2 aries", "begin 3", "get 3 8 0", "put 3 8 5 0", "delete 3 8 0", "commit 3", "abort 3 0", "clean 0", "stop 0", "crash 0 -", "duel 2"} {
		name, rest, _ := strings.Cut(line, " ")
		for i, word := range strings.Split(rest, " ") {
			if word == "aries" || word == "-" || name == "put" && i == 2 {
				continue
			}
			k := of(t, small, "begin 3", "copy")
			for _, bad := range noNumbers {
				k.says(with(line, i+1, bad), isNoLine)
			}
			for _, good := range []string{"0", "1", "-1", "10", "-10", "2147483647", "-2147483648", "2147483640", "1000000000"} {
				if got := of(t, small, "begin 3", "copy").answer(with(line, i+1, good)); got == isNoLine {
					t.Errorf("%q: %q", with(line, i+1, good), got)
				}
			}
			k.all("ids", "ids 3", "get 3 8 0", "none")
		}
	}
	of(t, small).all("begin -2147483648", "error 160", "begin 2147483647", "error 160", "begin 0", "error 160", "begin 64", "ok", "get 64 2147483647 0", "error 50", "get 64 -2147483648 0", "error 50", "get 64 8 -2147483648", "none", "get 64 8 2147483647", "none", "abort 64 -2147483648", "ok")
}

func TestValues(t *testing.T) { // P30.1: V
	k := of(t, small, "begin 3")
	for _, bad := range noNumbers {
		if !contains(notInRange, bad) {
			k.says("put 3 8 "+bad+" 0", isNoLine)
		}
	}
	for _, bad := range []string{"-1", "-2147483648", "18446744073709551616", "18446744073709551620", "36893488147419103232", "018446744073709551615"} {
		k.says("put 3 8 "+bad+" 0", isNoLine)
	}
	for _, good := range append([]string{"0", "1", "9", "10", "4294967295", "9223372036854775807", "18446744073709551609", "18446744073709551610", "18446744073709551615"}, notInRange...) {
		of(t, small, "begin 3").all("put 3 8 "+good+" 0", "ok", "get 3 8 0", "value "+good, "commit 3", "ok", "dump", "dump 8="+good)
	}
	k.all("get 3 8 0", "none", "used", "used 34 99")
}

func contains(all []string, one string) bool {
	return strings.Contains(" "+strings.Join(all, " ")+" ", " "+one+" ")
}

func TestManagers(t *testing.T) { // P30.1: M
	k := of(t, small, "crash 0 -")
	for _, bad := range []string{"both", "Aries", "CHOOSE", "1", "2", "0", "-", "arie", "ariess", "choos", "chooses", "aries,choose", "#", "a"} {
		k.says("open 2 "+bad, isNoLine)
		k.says("open 1 "+bad, isNoLine)
		begun(t).says("open 2 "+bad, isNoLine)
	}
	k.all("open 2 aries", silent, "close", "ok", "open 2 choose", silent)
}

func TestLists(t *testing.T) { // P30.1: numbers parted by commas, without blanks; - is the empty list
	k := of(t, small)
	for _, bad := range noNumbers {
		if bad != "-" && bad != "1,2" {
			k.says("crash 0 "+bad, isNoLine)
			k.says("crash 0 1,"+bad, isNoLine)
			k.says("crash 0 "+bad+",1", isNoLine)
			k.says("crash 0 1,"+bad+",1", isNoLine)
		}
	}
	for _, bad := range []string{"1,-", "-,1", "-,-", "1,,2", ",,", "1, 2", "1 ,2", "1;2", "1,2,", "[1,2]", "[]", "1,2,3,4,5,6,x"} {
		k.says("crash 0 "+bad, isNoLine)
	}
	k.says("ids", "ids")
	for _, good := range []string{"-", "0", "1", "-1", "1,2", "-1,-2,-3", "0,0,0", "2147483647,-2147483648", strings.Repeat("1,", 5000) + "1"} {
		of(t, small).all("crash 0 "+good, "ok", "ids", isClosed, "open 2 aries", silent)
	}
}

func TestAnyBytes(t *testing.T) { // P30.1: each byte, but blanks, #, digits and byte 10, makes any of these no line
	k := of(t, small, "begin 3", "copy")
	for b := range 256 {
		c := string([]byte{byte(b)})
		if strings.Contains("\t\n #0123456789", c) {
			continue
		}
		for _, line := range []string{c, c + c, "ids" + c, c + "ids", "i" + c + "ds", "begin " + c, "begin 1" + c, "begin" + c + "4", "put 3 8 " + c + " 0", "put 3 8 1" + c + "1 0", "crash 0 " + c + ",1", "crash 0 1" + c, "open 2 " + c, "duel " + c} {
			k.says(line, isNoLine)
		}
	}
	k.all("ids", "ids 3", "get 3 8 0", "none")
}
