package lex

import (
	"math/rand"
	"regexp"
	"slices"
	"strings"
	"testing"

	"antecedent/api"
	"antecedent/value"
)

// keywords are those of the chapter.
func keywords() []string {
	return []string{"not", "is", "plus", "minus", "times", "walk", "count", "sum", "min", "max", "mean"}
}

// marks are those of the chapter.
func marks() []string {
	return []string{"(", ")", ",", ".", "<", "<=", "=", "!=", ":-", "?-", "/", "|", "*", "+", "?", "^"}
}

// laid returns the tokens with those kinds and texts, as they stand in text one after the other.
func laid(text string, parts ...Token) []Token {
	at := 0
	for i, p := range parts {
		at += strings.Index(text[at:], p.Text)
		parts[i].At = at
		at += len(p.Text)
	}
	return parts
}

func word(s string) Token     { return Token{Kind: Word, Text: s} }
func variable(s string) Token { return Token{Kind: Var, Text: s} }
func val(s string) Token      { return Token{Kind: Val, Text: s} }
func mark(s string) Token     { return Token{Kind: Mark, Text: s} }

// start are the first tokens of l, so that a message does not tell thousands of them.
func start(l []Token) []Token { return l[:min(20, len(l))] }

// checkTokens checks that text has these tokens, at the places at which they stand one after the other.
func checkTokens(t *testing.T, text string, parts ...Token) {
	t.Helper()
	l, at, e := Tokens(text)
	if e != api.OK || at != 0 || !slices.Equal(l, laid(text, parts...)) {
		t.Errorf("Tokens(%.60q) is %v, %d, %d, not %v", text, start(l), at, e, start(parts))
	}
}

// checkError checks that text has no tokens, but an error at that offset.
func checkError(t *testing.T, text string, at int, e api.Errno) {
	t.Helper()
	if l, k, f := Tokens(text); len(l) != 0 || k != at || f != e {
		t.Errorf("Tokens(%.60q) is %v, %d, %d, not the error %d at %d", text, start(l), k, f, e, at)
	}
}

func TestKinds(t *testing.T) {
	if Word != 1 || Var != 2 || Val != 3 || Mark != 4 {
		t.Errorf("the kinds are %d, %d, %d and %d", Word, Var, Val, Mark)
	}
}

func TestTokensOfPrograms(t *testing.T) {
	checkTokens(t, "p(X,-5).", word("p"), mark("("), variable("X"), mark(","), val("-5"), mark(")"), mark("."))
	checkTokens(t, "p(X, count(Y)) :- walk(X, a/^b*, Y).\n?- p(X, 3).\n",
		word("p"), mark("("), variable("X"), mark(","), word("count"), mark("("), variable("Y"), mark(")"), mark(")"), mark(":-"),
		word("walk"), mark("("), variable("X"), mark(","), word("a"), mark("/"), mark("^"), word("b"), mark("*"), mark(","), variable("Y"), mark(")"), mark("."),
		mark("?-"), word("p"), mark("("), variable("X"), mark(","), val("3"), mark(")"), mark("."))
	checkTokens(t, "p :-\tnot q, X1 <= #3ff0000000000000, Y!=a_1|b+c?.",
		word("p"), mark(":-"), word("not"), word("q"), mark(","), variable("X1"), mark("<="), val("#3ff0000000000000"), mark(","),
		variable("Y"), mark("!="), word("a_1"), mark("|"), word("b"), mark("+"), word("c"), mark("?"), mark("."))
}

func TestTokensSayWhereTheyBegin(t *testing.T) {
	l, _, _ := Tokens(" ab\n\t :-Xy-12(\t")
	want := []Token{{Word, "ab", 1}, {Mark, ":-", 6}, {Var, "Xy", 8}, {Val, "-12", 10}, {Mark, "(", 13}}
	if !slices.Equal(l, want) {
		t.Errorf("the tokens are %v, not %v", l, want)
	}
}

func TestTextsWithoutTokens(t *testing.T) {
	for _, s := range []string{"", " ", "\t", "\n", "  ", " \t\n", "\n\n\t ", strings.Repeat(" ", api.MaxText), strings.Repeat("\n", api.MaxText), strings.Repeat(" \t\n\t", api.MaxText/4)} {
		checkTokens(t, s)
	}
}

func TestTextsOfTheGreatestLength(t *testing.T) {
	many := make([]Token, api.MaxText)
	for i := range many {
		many[i] = mark("(")
	}
	checkTokens(t, strings.Repeat("(", api.MaxText), many...)
	checkTokens(t, "a"+strings.Repeat(" ", api.MaxText-2)+"B", word("a"), variable("B"))
	for _, s := range []string{"(", " ", "a", "A", "1", "#", "-", "&", "\xff", "é"} {
		most := strings.Repeat(s, api.MaxText/len(s))
		checkError(t, most+"(", 0, api.ErrLong)
		checkError(t, most+" ", 0, api.ErrLong)
		checkError(t, most+"!", 0, api.ErrLong)
		checkError(t, " "+most, 0, api.ErrLong)
		checkError(t, most+most, 0, api.ErrLong)
	}
	blank := strings.Repeat(" ", api.MaxText-1)
	checkTokens(t, blank+"a", word("a"))
	checkError(t, blank+"!", api.MaxText-1, api.ErrParse)
	checkError(t, blank+" !", 0, api.ErrLong)
	checkError(t, "!"+blank, 0, api.ErrParse)
	checkError(t, "a!"+blank, 0, api.ErrLong)
	for _, s := range []string{"a", "A", "1", "#"} {
		checkError(t, strings.Repeat(s, api.MaxText), 0, api.ErrParse)
	}
}

// One byte alone, inside words, variables and values, and between tokens.
func TestEveryByte(t *testing.T) {
	for b := range 256 {
		c := string([]byte{byte(b)})
		for _, s := range []string{
			c, c + c, "a" + c, "A" + c, "1" + c, "#" + c, "-" + c, "?" + c, "<" + c, ":" + c, "!" + c, "=" + c, "(" + c,
			c + "a", c + "A", c + "1", c + "-", c + "=", c + "-1", "a" + c + "b", "A" + c + "b", "a" + c + "B", "1" + c + "2", "a " + c + " b",
			"#00000000" + c + "0000000", "#000000000000000" + c, "#0000000000000000" + c, " " + c, c + " ", "a\n" + c + "\tb", "p(X" + c + ",1)",
		} {
			checkAsDefined(t, s)
		}
	}
}

func TestBytesThatMayNotStandAnywhere(t *testing.T) {
	var bad []string
	for b := range 256 {
		c := byte(b)
		if c < 33 && c != ' ' && c != '\t' && c != '\n' || c > 126 || strings.IndexByte("\"$%&';>@[\\]`{}~", c) >= 0 {
			bad = append(bad, string([]byte{c}))
		}
	}
	bad = append(bad, "\r\n", "é", "\u00a0", "\u2028", "\ufeff", "０", "ａ", "−", "\u0301")
	for _, s := range bad {
		checkError(t, s, 0, api.ErrParse)
		checkError(t, " \n"+s+"a", 2, api.ErrParse)
		checkError(t, "ab"+s, 2, api.ErrParse)
		checkError(t, "ab"+s+"cd", 2, api.ErrParse)
		checkError(t, "Ab"+s+"cd", 2, api.ErrParse)
		checkError(t, "12"+s+"34", 2, api.ErrParse)
		checkError(t, "-1"+s+"34", 2, api.ErrParse)
		checkError(t, "#0000000000000000"+s, 17, api.ErrParse)
		checkError(t, "ab "+s+" cd", 3, api.ErrParse)
		checkError(t, "(,"+s+")", 2, api.ErrParse)
		checkError(t, "<"+s+"=", 1, api.ErrParse)
		checkError(t, "?"+s+"-", 1, api.ErrParse)
	}
}

func TestLongWordsAndVariables(t *testing.T) {
	for _, tail := range []string{"a", "_", "9", "z_0"} {
		long := strings.Repeat(tail, api.MaxName)[:api.MaxName-1]
		checkTokens(t, "a"+long, word("a"+long))
		checkTokens(t, "(z"+long+")", mark("("), word("z"+long), mark(")"))
		checkTokens(t, "A"+long, variable("A"+long))
		checkTokens(t, " Z"+long+" ", variable("Z"+long))
		checkTokens(t, "a"+long+"B"+long, word("a"+long), variable("B"+long))
		for _, more := range []string{"a", "_", "9", long, long + long} {
			checkError(t, "a"+long+more, 0, api.ErrParse)
			checkError(t, "b(a"+long+more+"!", 2, api.ErrParse)
			checkError(t, "A"+long+more, 0, api.ErrParse)
			checkError(t, "b, A"+long+more, 3, api.ErrParse)
		}
		checkError(t, "A"+long+"A", 0, api.ErrParse)
	}
	checkTokens(t, strings.Repeat("A", api.MaxName), variable(strings.Repeat("A", api.MaxName)))
	checkError(t, strings.Repeat("A", api.MaxName+1), 0, api.ErrParse)
}

func TestValues(t *testing.T) {
	for _, s := range []string{
		"0", "1", "9", "10", "-1", "-9", "-10", "1234567890", "9223372036854775807", "-9223372036854775808",
		"#0000000000000000", "#ffffffffffffffff", "#0123456789abcdef", "#3ff0000000000000", "#7ff0000000000000", "#7ff8000000000001", "#800fffffffffffff",
	} {
		checkTokens(t, s, val(s))
		checkTokens(t, "\t"+s+"\n", val(s))
		checkTokens(t, s+"."+s, val(s), mark("."), val(s))
		checkTokens(t, "("+s+")", mark("("), val(s), mark(")"))
		checkTokens(t, s+"-1", val(s), val("-1"))
		checkTokens(t, s+"#0000000000000000", val(s), val("#0000000000000000"))
		for _, more := range []string{"a", "z", "A", "Z", "_", "x1", "f", "_0"} {
			checkError(t, s+more, 0, api.ErrParse)
			checkError(t, "a,"+s+more+"!", 2, api.ErrParse)
		}
	}
}

func TestBadValues(t *testing.T) {
	for _, s := range []string{
		"00", "01", "007", "-0", "-00", "-01", "0x10", "1e3", "1_000", "12a", "1A", "0_", "-1a", "-1_", "-1B",
		"9223372036854775808", "-9223372036854775809", "18446744073709551616", "99999999999999999999", strings.Repeat("9", 1000), "-" + strings.Repeat("1", 1000),
		"#", "#0", "#a", "#A", "#_", "#ab_c", "#name", "#000000000000000", "#00000000000000000", "#FFFFFFFFFFFFFFFF", "#000000000000000g", "#000000000000000_", "#Z00000000000000a",
		"#7ff0000000000001", "#7ff8000000000000", "#7fffffffffffffff", "#8000000000000000", "#800ffffffffffffe",
	} {
		checkError(t, s, 0, api.ErrParse)
		checkError(t, s+" ", 0, api.ErrParse)
		checkError(t, "a "+s+" b", 2, api.ErrParse)
		checkError(t, "X<"+s+")", 2, api.ErrParse)
		checkError(t, "X<"+s+"!", 2, api.ErrParse)
	}
	checkError(t, "##", 0, api.ErrParse)
	checkError(t, "#-1", 0, api.ErrParse)
	checkError(t, "# 0000000000000000", 0, api.ErrParse)
	checkError(t, "-#0000000000000000", 0, api.ErrParse)
	checkError(t, "1.5e", 2, api.ErrParse)
	checkTokens(t, "1.5", val("1"), mark("."), val("5"))
}

func TestEveryMark(t *testing.T) {
	for _, m := range marks() {
		checkTokens(t, m, mark(m))
		checkTokens(t, " "+m+"\n", mark(m))
		checkTokens(t, "a"+m+"b", word("a"), mark(m), word("b"))
		checkTokens(t, "A"+m+"B", variable("A"), mark(m), variable("B"))
		checkTokens(t, "1"+m+"2", val("1"), mark(m), val("2"))
		checkTokens(t, "1"+m+" -2", val("1"), mark(m), val("-2"))
		for _, n := range marks() {
			checkTokens(t, m+" "+n, mark(m), mark(n))
			if m+n != "<=" {
				checkTokens(t, m+n, mark(m), mark(n))
			}
		}
	}
}

func TestTheLongerMark(t *testing.T) {
	checkTokens(t, "<=", mark("<="))
	checkTokens(t, "< =", mark("<"), mark("="))
	checkTokens(t, "<<==", mark("<"), mark("<="), mark("="))
	checkTokens(t, "=<", mark("="), mark("<"))
	checkTokens(t, "<==", mark("<="), mark("="))
	checkTokens(t, "!==", mark("!="), mark("="))
	checkTokens(t, "<-1", mark("<"), val("-1"))
	checkTokens(t, "<=-1", mark("<="), val("-1"))
	checkTokens(t, "?-", mark("?-"))
	checkTokens(t, "??-", mark("?"), mark("?-"))
	checkTokens(t, "? -1", mark("?"), val("-1"))
	checkTokens(t, "?-1", mark("?-"), val("1"))
	checkTokens(t, "?--1", mark("?-"), val("-1"))
	checkTokens(t, "?-x", mark("?-"), word("x"))
	checkTokens(t, ":-?-", mark(":-"), mark("?-"))
	checkTokens(t, ":--1", mark(":-"), val("-1"))
	checkTokens(t, "a?", word("a"), mark("?"))
	checkTokens(t, "a<", word("a"), mark("<"))
	checkError(t, "? -", 2, api.ErrParse)
	checkError(t, "?--", 2, api.ErrParse)
}

func TestHalfMarks(t *testing.T) {
	for _, s := range []string{":", "!", "-", ";", ">", "&", "@", "$", "{", "[", "'", "\"", "\\", "%", "~", "`"} {
		for _, more := range []string{"", " ", "\n", "a", "A", "_", ":", "!", ".", "#", "#0000000000000000", " =", " -", " 1"} {
			checkError(t, s+more, 0, api.ErrParse)
			checkError(t, "ab"+s+more, 2, api.ErrParse)
			checkError(t, "ab "+s+more, 3, api.ErrParse)
			checkError(t, "("+s+more, 1, api.ErrParse)
		}
	}
	for _, s := range []string{"_", "_a", "_A", "_1", "__"} {
		checkError(t, s, 0, api.ErrParse)
		checkError(t, "ab "+s, 3, api.ErrParse)
		checkError(t, "("+s, 1, api.ErrParse)
	}
	checkError(t, ":=", 0, api.ErrParse)
	checkError(t, "!-", 0, api.ErrParse)
	checkError(t, "--", 0, api.ErrParse)
	checkError(t, "--1", 0, api.ErrParse)
	checkError(t, "1-", 1, api.ErrParse)
	checkError(t, "1 - 2", 2, api.ErrParse)
	checkError(t, "1--2", 1, api.ErrParse)
	checkError(t, "a-b", 1, api.ErrParse)
	checkError(t, "-=", 0, api.ErrParse)
	checkTokens(t, "1-2", val("1"), val("-2"))
	checkTokens(t, "a-2", word("a"), val("-2"))
	checkTokens(t, "X-2", variable("X"), val("-2"))
}

func TestTokensSideBySide(t *testing.T) {
	checkTokens(t, "abXy", word("ab"), variable("Xy"))
	checkTokens(t, "a1_X", word("a1_"), variable("X"))
	checkTokens(t, "aB c", word("a"), variable("B"), word("c"))
	checkTokens(t, "Xab", variable("Xab"))
	checkTokens(t, "XyAb_1z", variable("XyAb_1z"))
	checkTokens(t, "X Y", variable("X"), variable("Y"))
	checkTokens(t, "a#0000000000000000", word("a"), val("#0000000000000000"))
	checkTokens(t, "A#0000000000000000-1", variable("A"), val("#0000000000000000"), val("-1"))
	checkTokens(t, "a(b)c", word("a"), mark("("), word("b"), mark(")"), word("c"))
	checkTokens(t, "a1", word("a1"))
	checkTokens(t, "A1", variable("A1"))
	checkError(t, "aB 1x", 3, api.ErrParse)
	checkError(t, "1X", 0, api.ErrParse)
	checkError(t, "a_X_1#", 5, api.ErrParse)
}

// The first error counts, whatever is wrong with it, and whatever comes after it.
func TestTheFirstError(t *testing.T) {
	long := strings.Repeat("a", api.MaxName+1)
	for _, first := range []string{long, "A" + long, "007", "1x", "#", "!", ":", "-", "\x00", "é"} {
		for _, second := range []string{long, "A" + long, "007", "1x", "#", "!", ":", "-", "\x00", "é"} {
			checkError(t, "p( "+first+" "+second, 3, api.ErrParse)
		}
	}
}

func TestKeywordsAreWords(t *testing.T) {
	for _, k := range keywords() {
		checkTokens(t, k, word(k))
		for _, more := range []string{"a", "_", "1", k} {
			checkTokens(t, k+more, word(k+more))
		}
		checkTokens(t, k+"X", word(k), variable("X"))
		checkTokens(t, k[:1]+" "+k[1:], word(k[:1]), word(k[1:]))
		checkTokens(t, k+"(-1)", word(k), mark("("), val("-1"), mark(")"))
	}
}

func TestKey(t *testing.T) {
	for _, k := range keywords() {
		if !Key(k) {
			t.Errorf("Key(%q) is false", k)
		}
		for _, s := range []string{k + "a", k + "_", k + "1", k + " ", " " + k, k[1:], k[:len(k)-1], strings.ToUpper(k), strings.ToUpper(k[:1]) + k[1:], k + k, k + "\x00", k + "X"} {
			if Key(s) {
				t.Errorf("Key(%q) is true", s)
			}
		}
	}
	for _, s := range []string{"", " ", "a", "X", "1", "(", ":-", "and", "or", "time", "along", "avg", "average", "nots", "holds", "fails", strings.Repeat("not", 10000)} {
		if Key(s) {
			t.Errorf("Key(%.60q) is true", s)
		}
	}
}

func TestVariable(t *testing.T) {
	for _, s := range []string{"A", "M", "Z", "X", "Abc_9", "Z1", "A_", "A__", "AA", "Az", "ABCDEFGHIJKLMNOPQRSTUVWXYZ_0123456789", "Xabcdefghijklmnopqrstuvwxyz_0123456789",
		strings.Repeat("A", api.MaxName-1), strings.Repeat("A", api.MaxName), "A" + strings.Repeat("_", api.MaxName-1), "Z" + strings.Repeat("9", api.MaxName-1)} {
		if !Variable(s) {
			t.Errorf("Variable(%q) is false", s)
		}
	}
	for _, s := range []string{"", " ", "x", "ab", "aB", "_", "_X", "1", "1X", "-X", "#", "X-", "X ", " X", "X\n", "\tX", "X\x00", "X Y", "X.", "X#", "É", "XÉ", "Xé", "Ａ", "X\x80", "\xff", "(", "(X",
		strings.Repeat("A", api.MaxName+1), "A" + strings.Repeat("_", api.MaxName), strings.Repeat("A", 100000), strings.Repeat("a", api.MaxName)} {
		if Variable(s) {
			t.Errorf("Variable(%.60q) is true", s)
		}
	}
}

func TestEveryByteInAVariable(t *testing.T) {
	form := regexp.MustCompile(`\A[A-Z][A-Za-z0-9_]{0,39}\z`)
	for b := range 256 {
		c := string([]byte{byte(b)})
		for _, s := range []string{c, c + "a", c + "A", "A" + c, "A" + c + "a", strings.Repeat("A", 39) + c, c + strings.Repeat("A", 39), strings.Repeat("A", 40) + c} {
			if Variable(s) != form.MatchString(s) {
				t.Errorf("Variable(%q) is %t", s, Variable(s))
			}
		}
	}
}

var (
	gapForm   = regexp.MustCompile(`\A[ \t\n]*`)
	tokenForm = regexp.MustCompile(`\A(?:([a-z][a-z0-9_]*)|([A-Z][A-Za-z0-9_]*)|((?:-?[0-9]|#)[A-Za-z0-9_]*)|(<=|!=|:-|\?-|[(),.<=/|*+?^]))`)
)

// definedValue reports whether s is the text of an Int or a Flo.
func definedValue(s string) bool {
	v, e := value.Read(s)
	return e == api.OK && (v.Kind == api.Int || v.Kind == api.Flo)
}

// defined is what Tokens must return for text, by the form of tokens.
func defined(text string) ([]Token, int, api.Errno) {
	if len(text) > api.MaxText {
		return nil, 0, api.ErrLong
	}
	var l []Token
	for at := len(gapForm.FindString(text)); at < len(text); {
		parts := tokenForm.FindStringSubmatch(text[at:])
		if parts == nil {
			return nil, at, api.ErrParse
		}
		kind := 1
		for parts[kind] == "" {
			kind++
		}
		s := parts[kind]
		if kind <= 2 && len(s) > api.MaxName || kind == 3 && !definedValue(s) {
			return nil, at, api.ErrParse
		}
		l = append(l, Token{Kind: kind, Text: s, At: at})
		at += len(s)
		at += len(gapForm.FindString(text[at:]))
	}
	return l, 0, api.OK
}

// checkAsDefined checks the tokens of text, and those of their texts separated by spaces, and by more.
func checkAsDefined(t *testing.T, text string) {
	t.Helper()
	l, at, e := Tokens(text)
	want, wantAt, wantE := defined(text)
	if !slices.Equal(l, want) || at != wantAt || e != wantE {
		t.Fatalf("Tokens(%.200q) is %v, %d, %d, not %v, %d, %d", text, start(l), at, e, start(want), wantAt, wantE)
	}
	if e == api.OK {
		checkAgain(t, l, " ")
		checkAgain(t, l, "\n")
		checkAgain(t, l, "\t \n")
	}
}

// checkAgain checks that the texts of the tokens, separated by gap, have the same tokens.
func checkAgain(t *testing.T, l []Token, gap string) {
	t.Helper()
	var texts []string
	var want []Token
	at := 0
	for _, x := range l {
		texts = append(texts, x.Text)
		want = append(want, Token{Kind: x.Kind, Text: x.Text, At: at})
		at += len(x.Text) + len(gap)
	}
	again := strings.Join(texts, gap)
	if len(again) > api.MaxText {
		checkError(t, again, 0, api.ErrLong)
		return
	}
	if got, k, e := Tokens(again); !slices.Equal(got, want) || k != 0 || e != api.OK {
		t.Fatalf("Tokens(%.200q) is %v, %d, %d, not %v", again, start(got), k, e, start(want))
	}
}

// All texts of up to four of these bytes: between any two of them, tokens may meet, join or end.
func TestShortTextsAreAsDefined(t *testing.T) {
	alphabet := "aA1_0-#?<=!: (\xc3"
	texts := []string{""}
	for len(texts[0]) < 4 {
		var longer []string
		for _, s := range texts {
			checkAsDefined(t, s)
			for i := range len(alphabet) {
				longer = append(longer, s+alphabet[i:i+1])
			}
		}
		texts = longer
	}
	for _, s := range texts {
		checkAsDefined(t, s)
	}
}

// pieces are tokens, parts of tokens, and what may and may not stand between them.
func pieces() []string {
	return slices.Concat(keywords(), marks(), []string{
		" ", " ", "\t", "\n", " \n", "a", "b_1", "deadbeef", "X", "Y_1z", "Zz", "0", "1", "42", "-7", "-12", "#3ff0000000000000", "#ffffffffffffffff", "_",
		strings.Repeat("q", 20), strings.Repeat("Q", 20), "9223372036854775807", "-9223372036854775808",
	})
}

func TestRandomTextsAreAsDefined(t *testing.T) {
	random := rand.New(rand.NewSource(1))
	l, bad := pieces(), []string{"-", ":", "!", "#", "00", "\r", "\x00", "é", "\xff", ";", "1x", "#7fffffffffffffff", strings.Repeat("q", 41)}
	good := 0
	for range 60000 {
		var text strings.Builder
		for range random.Intn(30) {
			text.WriteString(l[random.Intn(len(l))])
			if random.Intn(3) > 0 {
				text.WriteString(" ")
			}
			if random.Intn(60) == 0 {
				text.WriteString(bad[random.Intn(len(bad))])
			}
		}
		checkAsDefined(t, text.String())
		if _, _, e := Tokens(text.String()); e == api.OK {
			good++
		}
	}
	if good < 5000 {
		t.Errorf("only %d random texts have tokens", good)
	}
}

func TestRandomBytesAreAsDefined(t *testing.T) {
	random := rand.New(rand.NewSource(2))
	for range 60000 {
		text := make([]byte, random.Intn(60))
		alphabet := []string{"abAB01_ ", "ab01-# \t\n", "()<=?-:!*+/|^., ", "aA1#-_(\n\r\x00\x80\xc3\xa9"}[random.Intn(4)]
		for i := range text {
			text[i] = alphabet[random.Intn(len(alphabet))]
		}
		checkAsDefined(t, string(text))
	}
}

// Long texts up to the limit and past it, also by the spaces that separate their tokens.
func TestLongTextsAreAsDefined(t *testing.T) {
	random := rand.New(rand.NewSource(3))
	l := slices.Concat(marks(), []string{"abc ", "Xyz ", " -12 ", " #0000000000000001 ", "\n", "\t"})
	for range 40 {
		size := api.MaxText/2 + random.Intn(api.MaxText)
		var text strings.Builder
		for text.Len() < size {
			text.WriteString(l[random.Intn(len(l))])
		}
		checkAsDefined(t, text.String())
		checkAsDefined(t, (text.String() + strings.Repeat(" ", api.MaxText))[:api.MaxText])
	}
}

func TestResultsShareNoMemory(t *testing.T) {
	const text = "p(X, -1) :- q. ?- p(X, Y)."
	l, _, _ := Tokens(text)
	other, _, _ := Tokens(text)
	clear(l)
	_ = append(l[:1], Token{Kind: 9}, Token{Kind: 9})
	if want, _, _ := defined(text); !slices.Equal(other, want) {
		t.Errorf("changing the tokens makes others %v", other)
	}
	checkAsDefined(t, text)
}
