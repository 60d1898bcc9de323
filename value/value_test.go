package value

import (
	"fmt"
	"math"
	"math/rand"
	"regexp"
	"slices"
	"strconv"
	"strings"
	"testing"

	"antecedent/api"
)

const (
	nan    = int64(9221120237041090561)
	inf    = int64(9218868437227405312)
	negInf = int64(-9218868437227405313)
)

func integer(n int64) api.Value  { return api.Value{Kind: api.Int, N: n} }
func floating(n int64) api.Value { return api.Value{Kind: api.Flo, N: n} }
func symbol(s string) api.Value  { return api.Value{Kind: api.Sym, S: s} }

// pair is a valid value and its text.
type pair struct {
	v api.Value
	t string
}

// pairs are in the order of the values.
func pairs() []pair {
	return []pair{
		{integer(math.MinInt64), "-9223372036854775808"},
		{integer(math.MinInt64 + 1), "-9223372036854775807"},
		{integer(-1000000000000000000), "-1000000000000000000"},
		{integer(-100), "-100"},
		{integer(-10), "-10"},
		{integer(-9), "-9"},
		{integer(-1), "-1"},
		{integer(0), "0"},
		{integer(1), "1"},
		{integer(9), "9"},
		{integer(10), "10"},
		{integer(1234567890), "1234567890"},
		{integer(999999999999999999), "999999999999999999"},
		{integer(1000000000000000000), "1000000000000000000"},
		{integer(math.MaxInt64 - 1), "9223372036854775806"},
		{integer(math.MaxInt64), "9223372036854775807"},
		{floating(negInf), "#800fffffffffffff"},
		{floating(-4607182418800017409), "#c00fffffffffffff"},
		{floating(-2), "#fffffffffffffffe"},
		{floating(-1), "#ffffffffffffffff"},
		{floating(0), "#0000000000000000"},
		{floating(1), "#0000000000000001"},
		{floating(0x0123456789abcdef), "#0123456789abcdef"},
		{floating(4607182418800017408), "#3ff0000000000000"},
		{floating(inf), "#7ff0000000000000"},
		{floating(nan), "#7ff8000000000001"},
		{symbol("a"), "a"},
		{symbol("a0"), "a0"},
		{symbol("a00"), "a00"},
		{symbol("a_"), "a_"},
		{symbol("aa"), "aa"},
		{symbol("abc_def_0123456789"), "abc_def_0123456789"},
		{symbol("b"), "b"},
		{symbol("deadbeef"), "deadbeef"},
		{symbol("z"), "z"},
		{symbol(strings.Repeat("z", 40)), "zzzzzzzzzzzzzzzzzzzzzzzzzzzzzzzzzzzzzzzz"},
	}
}

func invalidValues() []api.Value {
	return []api.Value{
		{}, {N: 1}, {S: "a"}, {Kind: -1}, {Kind: 4}, {Kind: 4, S: "a"}, {Kind: 5, N: 1}, {Kind: math.MinInt}, {Kind: math.MaxInt},
		{Kind: api.Int, S: "a"}, {Kind: api.Int, N: 7, S: "7"}, {Kind: api.Int, S: " "},
		{Kind: api.Flo, S: "a"}, {Kind: api.Flo, N: -1, S: "#ffffffffffffffff"},
		floating(inf + 1), floating(nan - 1), floating(nan + 1), floating(negInf - 1), floating(math.MaxInt64), floating(math.MinInt64),
		symbol(""), {Kind: api.Sym, N: 1}, {Kind: api.Sym, N: 1, S: "a"}, {Kind: api.Sym, N: -1, S: "a"}, {Kind: api.Sym, N: math.MinInt64, S: "a"},
		symbol("Ann"), symbol("_a"), symbol("0a"), symbol("a-b"), symbol("é"), symbol("a\x00"), symbol(strings.Repeat("z", 41)),
	}
}

// noNames are texts that are no names; those that are texts of other values are not among them.
func noNames() []string {
	return []string{
		"", "_", "_a", "__", "0a", "1_", "A", "Ann", "aB", "a-b", "a b", " a", "a ", "a\n", "\na", "a\x00", "\x00", "a.b", "a#", "a'", "'a'",
		"a`", "a{", "`", "{", "@", "a@", "a[", "a/", "a:", "a^", "é", "aé", "a\u0301", "ａ", "a\xff", "\x80", "a١",
		strings.Repeat("a", 41), "a" + strings.Repeat("_", 40), strings.Repeat("a", 100000), strings.Repeat("é", 20),
	}
}

// badTexts are texts of no value that resemble those of integers and floating-point numbers.
func badTexts() []string {
	return []string{
		"-", "--", "+", "-0", "+0", "00", "000", "-00", "01", "-01", "007", "-007", "00000000000000000001",
		"+5", "++5", "--5", "-+5", "+-5", "5-", "5+", "1-2", " 5", "5 ", "- 5", "5\n", "5\x00", "\x005", "5/", "5:", "/5", ":5",
		"1.0", "1.", ".5", "1e3", "0x10", "0b1", "1_000", "1,000", "12a", "1a", "-a", "-1a", "٣", "５", "-\xff",
		"9223372036854775808", "-9223372036854775809", "9223372036854775810", "-9223372036854775810", "9999999999999999999",
		"-9999999999999999999", "10000000000000000000", "18446744073709551615", "18446744073709551616", "-18446744073709551616",
		"18446744073709551617", "92233720368547758070", "-92233720368547758080", "100000000000000000000", strings.Repeat("9", 100000),
		strings.Repeat("0", 100000), "-" + strings.Repeat("1", 100000),
		"#", "##", "#0", "#-1", "#000000000000000", "#00000000000000000", "0000000000000000", "##000000000000000", "#000000000000000#",
		"#-000000000000001", "#+000000000000001", "#FFFFFFFFFFFFFFFF", "#fffffffffffffffF", "#3FF0000000000000", "#000000000000000g",
		"#000000000000000/", "#000000000000000:", "#000000000000000`", "#000000000000000@", "#g000000000000000", "# 000000000000000",
		"#000000000000000 ", "#000000000000000\x00", "#0x00000000000000", "#0000_0000_0000_0", " #0000000000000000", "#0000000000000000\n",
		"-#0000000000000000", "-#ffffffffffffffff", "0#000000000000000", "a#000000000000000", "#é00000000000000",
		"#7ff0000000000001", "#7ff8000000000000", "#7ff8000000000002", "#7fffffffffffffff", "#8000000000000000", "#800ffffffffffffe",
		"#" + strings.Repeat("0", 100000),
	}
}

func TestName(t *testing.T) {
	for _, s := range []string{
		"a", "m", "z", "ab", "a0", "a9", "a_", "a__", "z_9", "ann_2", "abcdefghijklmnopqrstuvwxyz_0123456789",
		strings.Repeat("a", 39), strings.Repeat("a", 40), "a" + strings.Repeat("_", 39), "z" + strings.Repeat("9", 39),
	} {
		if !Name(s) {
			t.Errorf("Name(%q) is false", s)
		}
	}
	for _, s := range append(noNames(), "0", "9", "-1", "#0000000000000000") {
		if Name(s) {
			t.Errorf("Name(%.50q) is true", s)
		}
	}
}

func TestEveryByteInAName(t *testing.T) {
	for b := range 256 {
		c := byte(b)
		letter := strings.IndexByte("abcdefghijklmnopqrstuvwxyz", c) >= 0
		other := strings.IndexByte("0123456789_", c) >= 0
		for s, want := range map[string]bool{
			string([]byte{c}):                                 letter,
			string([]byte{c, 'a'}):                            letter,
			string([]byte{'a', c}):                            letter || other,
			string([]byte{'a', c, 'a'}):                       letter || other,
			strings.Repeat("a", 39) + string([]byte{c}):       letter || other,
			string([]byte{c}) + strings.Repeat("a", 39):       letter,
			strings.Repeat("a", 39) + string([]byte{c}) + "a": false,
		} {
			if Name(s) != want {
				t.Errorf("Name(%q) is %t", s, !want)
			}
		}
	}
}

func TestRight(t *testing.T) {
	for _, p := range pairs() {
		if !Right(p.v) {
			t.Errorf("Right(%+v) is false", p.v)
		}
	}
	for _, v := range invalidValues() {
		if Right(v) {
			t.Errorf("Right(%+v) is true", v)
		}
	}
	for _, s := range noNames() {
		if Right(symbol(s)) {
			t.Errorf("Right of the symbol %.50q is true", s)
		}
	}
}

func TestTextAndRead(t *testing.T) {
	for _, p := range pairs() {
		if s := Text(p.v); s != p.t {
			t.Errorf("Text(%+v) is %q, not %q", p.v, s, p.t)
		}
		if v, e := Read(p.t); v != p.v || e != api.OK {
			t.Errorf("Read(%q) is %+v, %d", p.t, v, e)
		}
	}
}

func TestTextOfInvalidValues(t *testing.T) {
	for _, v := range invalidValues() {
		if s := Text(v); s != "" {
			t.Errorf("Text(%+v) is %q", v, s)
		}
	}
}

func TestReadOfBadTexts(t *testing.T) {
	for _, s := range append(badTexts(), noNames()...) {
		if v, e := Read(s); v != (api.Value{}) || e != api.ErrParse {
			t.Errorf("Read(%.50q) is %+v, %d", s, v, e)
		}
	}
}

// The text of each value, spoilt in one place by each byte, is read as what an independent definition of the texts says.
func TestReadOfSpoiltTexts(t *testing.T) {
	for _, p := range pairs() {
		for at := range len(p.t) + 1 {
			checkRead(t, p.t[:at])
			for b := range 256 {
				c := string([]byte{byte(b)})
				checkRead(t, p.t[:at]+c+p.t[at:])
				if at < len(p.t) {
					checkRead(t, p.t[:at]+c+p.t[at+1:])
				}
			}
		}
	}
}

func checkRead(t *testing.T, s string) {
	t.Helper()
	want, ok := defined(s)
	v, e := Read(s)
	if v != want || ok != (e == api.OK) || !ok && e != api.ErrParse {
		t.Fatalf("Read(%q) is %+v, %d, not %+v", s, v, e, want)
	}
	if ok && (Text(v) != s || !Right(v)) {
		t.Fatalf("Text(%+v) is %q, not %q", v, Text(v), s)
	}
}

var (
	intForm = regexp.MustCompile(`\A(0|-?[1-9][0-9]*)\z`)
	floForm = regexp.MustCompile(`\A#[0-9a-f]{16}\z`)
	symForm = regexp.MustCompile(`\A[a-z][a-z0-9_]{0,39}\z`)
)

// defined is the value whose text is s, by the forms of texts and by the library.
func defined(s string) (api.Value, bool) {
	switch {
	case intForm.MatchString(s):
		if n, err := strconv.ParseInt(s, 10, 64); err == nil {
			return integer(n), true
		}
	case floForm.MatchString(s):
		bits, _ := strconv.ParseUint(s[1:], 16, 64)
		n := int64(bits)
		if n == nan || negInf <= n && n <= inf {
			return floating(n), true
		}
	case symForm.MatchString(s):
		return symbol(s), true
	}
	return api.Value{}, false
}

// randomNumber has all lengths alike, and lies often at the edge of a length.
func randomNumber(r *rand.Rand) int64 {
	n := int64(r.Uint64()) >> r.Intn(64)
	if r.Intn(4) == 0 {
		n = int64(math.Pow10(r.Intn(19))) + int64(r.Intn(3)) - 1
	}
	if r.Intn(2) == 0 {
		n = -n
	}
	return n
}

func TestRandomNumbersGoThereAndBack(t *testing.T) {
	r := rand.New(rand.NewSource(2))
	for range 100000 {
		n := randomNumber(r)
		if s := Text(integer(n)); s != strconv.FormatInt(n, 10) {
			t.Fatalf("Text of the integer %d is %q", n, s)
		}
		checkRead(t, strconv.FormatInt(n, 10))
		want := fmt.Sprintf("#%016x", uint64(n))
		if s := Text(floating(n)); Right(floating(n)) && s != want || !Right(floating(n)) && s != "" {
			t.Fatalf("Text of the code %d is %q", n, s)
		}
		checkRead(t, want)
	}
}

func TestRandomTextsAreReadAsDefined(t *testing.T) {
	r := rand.New(rand.NewSource(3))
	for range 200000 {
		bytes := make([]byte, r.Intn(45))
		alphabet := []string{"0123456789-", "0123456789abcdef#", "abcxyz_09", "azAZ_09#- "}[r.Intn(4)]
		for i := range bytes {
			bytes[i] = alphabet[r.Intn(len(alphabet))]
		}
		checkRead(t, string(bytes))
	}
}

func TestDifferentValuesHaveDifferentTexts(t *testing.T) {
	seen := map[string]api.Value{}
	note := func(v api.Value) {
		s := Text(v)
		if old, ok := seen[s]; ok && old != v {
			t.Fatalf("%+v and %+v have the text %q", old, v, s)
		}
		seen[s] = v
	}
	for _, p := range pairs() {
		note(p.v)
	}
	for n := int64(-2000); n <= 2000; n++ {
		note(integer(n))
		note(floating(n))
		note(symbol("a" + strconv.FormatInt(n&0xfff, 10)))
	}
}

func TestCompareOrdersTheTable(t *testing.T) {
	l := pairs()
	for i := range l {
		for k := range l {
			if n, want := Compare(l[i].v, l[k].v), min(1, max(-1, i-k)); n != want {
				t.Errorf("Compare(%+v, %+v) is %d, not %d", l[i].v, l[k].v, n, want)
			}
		}
	}
}

func TestCompareByKindThenNThenS(t *testing.T) {
	for _, c := range []struct {
		a, b api.Value
		want int
	}{
		{integer(math.MaxInt64), floating(math.MinInt64), -1},
		{integer(5), floating(5), -1},
		{floating(nan), symbol("a"), -1},
		{symbol("a"), integer(math.MinInt64), 1},
		{integer(math.MinInt64), integer(math.MaxInt64), -1},
		{integer(math.MaxInt64), integer(math.MinInt64), 1},
		{integer(1 << 32), integer(0), 1},
		{floating(-1), floating(0), -1},
		{symbol("a"), symbol("ab"), -1},
		{symbol("b"), symbol("ab"), 1},
		{symbol("a9"), symbol("a_"), -1},
		{symbol("a_"), symbol("aa"), -1},
		{symbol("a10"), symbol("a9"), -1},
		{api.Value{Kind: 3, N: 1, S: "a"}, api.Value{Kind: 3, N: 0, S: "b"}, 1},
		{api.Value{Kind: 1, N: 1, S: "b"}, api.Value{Kind: 1, N: 2, S: "a"}, -1},
		{api.Value{Kind: 1, N: 1, S: "b"}, api.Value{Kind: 1, N: 1, S: "a"}, 1},
		{api.Value{Kind: 2, S: ""}, api.Value{Kind: 2, S: "\x00"}, -1},
		{symbol("\x7f"), symbol("\x80"), -1},
		{symbol("\xff"), symbol("é"), 1},
		{symbol("Z"), symbol("a"), -1},
		{api.Value{}, api.Value{}, 0},
		{api.Value{Kind: math.MinInt}, api.Value{Kind: math.MaxInt}, -1},
		{api.Value{Kind: -1}, api.Value{}, -1},
		{api.Value{Kind: 4}, symbol("z"), 1},
	} {
		if n := Compare(c.a, c.b); n != c.want {
			t.Errorf("Compare(%+v, %+v) is %d, not %d", c.a, c.b, n, c.want)
		}
		if n := Compare(c.b, c.a); n != -c.want {
			t.Errorf("Compare(%+v, %+v) is %d, not %d", c.b, c.a, n, -c.want)
		}
	}
}

// anyValues are valid and invalid ones, with each part alike in some of them.
func anyValues() []api.Value {
	var l []api.Value
	for _, kind := range []int{-1, 0, api.Int, api.Flo, api.Sym, 4} {
		for _, n := range []int64{math.MinInt64, -1, 0, 1, math.MaxInt64} {
			for _, s := range []string{"", "\x00", "Z", "a", "aa", "b", "\xff"} {
				l = append(l, api.Value{Kind: kind, N: n, S: s})
			}
		}
	}
	return l
}

func TestCompareIsATotalOrder(t *testing.T) {
	l := anyValues()
	r := rand.New(rand.NewSource(4))
	r.Shuffle(len(l), func(i, k int) { l[i], l[k] = l[k], l[i] })
	slices.SortFunc(l, Compare)
	if !slices.Equal(l, anyValues()) {
		t.Fatal("values sorted by Compare are not in order")
	}
	// One position for each value, and Compare that agrees with all positions: so it is total, antisymmetric and transitive.
	for i := range l {
		for k := range l {
			if n, want := Compare(l[i], l[k]), min(1, max(-1, i-k)); n != want {
				t.Fatalf("Compare(%+v, %+v) is %d, not %d", l[i], l[k], n, want)
			}
		}
	}
}
