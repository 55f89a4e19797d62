package sym_test

import (
	"math"
	"math/big"
	"regexp"
	"strconv"
	"strings"
	"testing"

	"ponder/api"
	"ponder/sym"
)

func equal[V comparable](t *testing.T, what string, got, want V) {
	t.Helper()
	if got != want {
		t.Errorf("%s: got %v, want %v", what, got, want)
	}
}

func id(letter string, n int) api.Sym {
	return api.Sym{Kind: api.Id, Text: letter, N: n}
}

func number(n int) api.Sym {
	return api.Sym{Kind: api.Int, N: n}
}

func word(text string) api.Sym {
	return api.Sym{Kind: api.Str, Text: text}
}

// longest has as many bytes as a word may have.
var longest = "a" + strings.Repeat("-_09z", api.MaxName)[:api.MaxName-1]

// texts are those of valid symbols, the greatest and the least ones among them.
func texts() map[string]api.Sym {
	return map[string]api.Sym{
		"S12": id("S", 12), "A1": id("A", 1), "Z9": id("Z", 9), "M10": id("M", 10), "Z1048576": id("Z", api.MaxSeq), "B1048575": id("B", api.MaxSeq-1),
		"0": number(0), "7": number(7), "-7": number(-7), "10": number(10), "-100": number(-100),
		"2147483647": number(api.MaxInt), "-2147483647": number(-api.MaxInt), "2147483646": number(api.MaxInt - 1),
		"a": word("a"), "z": word("z"), "nil": word("nil"), "no-change": word("no-change"), "a_b": word("a_b"), "s1": word("s1"),
		"v-1": word("v-1"), "x--": word("x--"), "q__0": word("q__0"), "b009": word("b009"), longest: word(longest),
	}
}

// invalid are symbols that are not valid, each for one reason.
func invalid() []api.Sym {
	return []api.Sym{
		{},
		{Kind: 0, Text: "a"}, {Kind: 4, Text: "a"}, {Kind: -1, N: 1}, {Kind: 4, N: 1}, {Kind: math.MaxInt}, {Kind: math.MinInt, Text: "S", N: 1},
		id("", 1), id("s", 1), id("SS", 1), id("S1", 1), id("@", 1), id("[", 1), id("1", 1), id("-", 1), id(" ", 1), id("\x00", 1), id("Ä", 1), id("\xc3", 1),
		id("S", 0), id("S", -1), id("S", api.MaxSeq+1), id("S", math.MaxInt), id("S", math.MinInt),
		{Kind: api.Int, Text: "7", N: 7}, {Kind: api.Int, Text: "a"}, {Kind: api.Int, Text: "S", N: 1},
		number(api.MaxInt + 1), number(-api.MaxInt - 1), number(math.MaxInt), number(math.MinInt),
		{Kind: api.Str, Text: "a", N: 1}, {Kind: api.Str, Text: "a", N: -1}, {Kind: api.Str, N: 5},
		word(""), word("A"), word("aB"), word("1a"), word("-a"), word("_a"), word("7"), word("-"), word("S1"), word("a b"), word(" a"), word("a "),
		word("a\x00"), word("a\n"), word("ä"), word("aä"), word("a\xe4"), word("a.b"), word("<a>"), word(longest + "z"), word(strings.Repeat("a", 1000)),
	}
}

// P4.1

func TestValid(t *testing.T) {
	for text, s := range texts() {
		equal(t, "Valid of "+text, sym.Valid(s), true)
	}
	for _, s := range invalid() {
		if sym.Valid(s) {
			t.Errorf("Valid of %#v", s)
		}
	}
}

func TestValidLetters(t *testing.T) {
	for b := range 256 {
		letter := string([]byte{byte(b)})
		equal(t, "Valid of an identifier with the letter "+strconv.Quote(letter), sym.Valid(id(letter, 1)), b >= 'A' && b <= 'Z')
	}
}

func TestWord(t *testing.T) {
	for b := range 256 {
		one := string([]byte{byte(b)})
		small := strings.Contains("abcdefghijklmnopqrstuvwxyz", one)
		later := small || strings.Contains("0123456789-_", one)
		equal(t, "Word of "+strconv.Quote(one), sym.Word(one), small)
		equal(t, "Word with a second byte "+strconv.Quote(one), sym.Word("a"+one), later)
		equal(t, "Word with a last byte "+strconv.Quote(one), sym.Word(longest[:api.MaxName-1]+one), later)
		equal(t, "Word with a byte within it "+strconv.Quote(one), sym.Word("x"+one+"y"), later)
	}
	for n := range 2 * api.MaxName {
		equal(t, "Word of "+strconv.Itoa(n)+" bytes", sym.Word(strings.Repeat("w", n)), n >= 1 && n <= 32)
	}
}

func TestText(t *testing.T) {
	for text, s := range texts() {
		equal(t, "Text", sym.Text(s), text)
	}
	for _, s := range invalid() {
		if got := sym.Text(s); got != "" {
			t.Errorf("Text of %#v: %q", s, got)
		}
	}
}

func TestParse(t *testing.T) {
	for text, want := range texts() {
		got, ok := sym.Parse(text)
		equal(t, "Parse of "+text, got, want)
		equal(t, "whether Parse of "+text, ok, true)
	}
}

func TestParseOfWhatIsNoText(t *testing.T) {
	for _, text := range []string{
		"", " ", "\n", "\x00", "#", "-", "--", "+", "_", ".", "ä", "\xff",
		"-0", "+0", "+5", "00", "007", "-07", "--7", "7-", "-7-", "- 7", "7 ", " 7", "7a", "1e3", "0x1", "1_000", "1.0", "٣", "-a", "5\n",
		"2147483648", "-2147483648", "4294967296", "9223372036854775807", "-9223372036854775808", "18446744073709551617", "99999999999999999999", "-99999999999999999999",
		"S", "S0", "S01", "S-1", "S+1", "S1048577", "S99999999999999999999", "S18446744073709551617", "SS1", "S1S", "S1 ", " S1", "S 1", "S1a", "S1-", "S_1", "Sa", "Ä1", "@1", "[1",
		"A", "aB", "a b", "a ", " a", "a\n", "a\x00", "ab.", "a\xe4", "<a>", longest + "z", strings.Repeat("a", 1000), strings.Repeat("1", 1000), "S" + strings.Repeat("1", 1000),
	} {
		got, ok := sym.Parse(text)
		equal(t, "Parse of "+strconv.Quote(text), got, api.Sym{})
		equal(t, "whether Parse of "+strconv.Quote(text), ok, false)
	}
}

var (
	idForm     = regexp.MustCompile(`\A[A-Z]([1-9][0-9]*)\z`)
	numberForm = regexp.MustCompile(`\A(0|-?[1-9][0-9]*)\z`)
	wordForm   = regexp.MustCompile(`\A[a-z][a-z0-9_-]{0,31}\z`)
)

// within tells whether the digits are a number from least to most, however many there are.
func within(digits string, least, most int64) bool {
	n, ok := new(big.Int).SetString(digits, 10)
	return ok && n.Cmp(big.NewInt(least)) >= 0 && n.Cmp(big.NewInt(most)) <= 0
}

// meant is Parse by the forms of texts, without the library's reading of numbers.
func meant(text string) (api.Sym, bool) {
	if m := idForm.FindStringSubmatch(text); m != nil && within(m[1], 1, 1<<20) {
		n, _ := strconv.Atoi(m[1])
		return id(text[:1], n), true
	}
	if numberForm.MatchString(text) && within(text, -(1<<31-1), 1<<31-1) {
		n, _ := strconv.Atoi(text)
		return number(n), true
	}
	if wordForm.MatchString(text) {
		return word(text), true
	}
	return api.Sym{}, false
}

// parsed holds Parse to the forms, and Text and Valid to what Parse returns.
func parsed(t *testing.T, text string) {
	t.Helper()
	want, wantOk := meant(text)
	got, ok := sym.Parse(text)
	if got != want || ok != wantOk {
		t.Errorf("Parse of %q: got %v, %v, want %v, %v", text, got, ok, want, wantOk)
	}
	if ok && (sym.Text(got) != text || !sym.Valid(got)) {
		t.Errorf("the symbol of %q has the text %q and is valid: %v", text, sym.Text(got), sym.Valid(got))
	}
	equal(t, "Word of "+strconv.Quote(text), sym.Word(text), ok && got.Kind == api.Str)
}

func TestAllShortTexts(t *testing.T) {
	const bytes = "AZaz019-_+ @[`{/:\x00\xc3\xa4"
	level := []string{""}
	for range 4 {
		var next []string
		for _, text := range level {
			parsed(t, text)
			for i := range len(bytes) {
				next = append(next, text+bytes[i:i+1])
			}
		}
		level = next
	}
	for _, text := range level {
		parsed(t, text)
	}
}

func TestNumbersAboutTheirBounds(t *testing.T) {
	for _, most := range []int{api.MaxSeq, api.MaxInt, math.MaxInt32, math.MaxUint32} {
		for n := most - 20; n <= most+20; n++ {
			digits := strconv.Itoa(n)
			for _, text := range []string{digits, "-" + digits, "S" + digits, "S0" + digits, "0" + digits, "w" + digits} {
				parsed(t, text)
			}
		}
	}
}
