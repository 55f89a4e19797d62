package lex_test

import (
	"iter"
	"math"
	"regexp"
	"slices"
	"strconv"
	"strings"
	"testing"

	"ponder/api"
	"ponder/lex"
)

func equal[V comparable](t *testing.T, what string, got, want V) {
	t.Helper()
	if got != want {
		t.Errorf("%s: got %v, want %v", what, got, want)
	}
}

func same(t *testing.T, what string, got, want []lex.Token) {
	t.Helper()
	if !slices.Equal(got, want) {
		t.Errorf("%s:\n got %s\nwant %s", what, told(got), told(want))
	}
}

func told(l []lex.Token) string {
	var words []string
	for _, k := range l {
		words = append(words, strconv.Itoa(k.Kind)+":"+strconv.Quote(k.Text)+"@"+strconv.Itoa(k.At))
	}
	return strings.Join(words, " ")
}

func collected(l iter.Seq[lex.Token]) []lex.Token {
	return slices.Collect(l)
}

// want makes the tokens of a list such as "word:a@0 sign:<@1 end:@2".
func want(t *testing.T, list string) []lex.Token {
	t.Helper()
	kinds := map[string]int{"word": 1, "num": 2, "var": 3, "sign": 4, "end": 5, "bad": 6}
	var l []lex.Token
	for _, w := range strings.Fields(list) {
		kind, rest, _ := strings.Cut(w, ":")
		i := strings.LastIndex(rest, "@")
		at, err := strconv.Atoi(rest[i+1:])
		if kinds[kind] == 0 || err != nil {
			t.Fatalf("no token: %s", w)
		}
		l = append(l, lex.Token{Kind: kinds[kind], Text: rest[:i], At: at})
	}
	return l
}

// The tokens by the document's rules, each rule as a form that a text begins with.

var (
	gapForm     = regexp.MustCompile(`\A(?:[ \t\n\r]|#[^\n]*)*`)
	wordForm    = regexp.MustCompile(`\A[a-z][a-z0-9_-]*`)
	numberForm  = regexp.MustCompile(`\A-?[0-9]+`)
	varForm     = regexp.MustCompile(`\A<[a-z][a-z0-9_-]*>`)
	plainNumber = regexp.MustCompile(`\A(?:0|-?[1-9][0-9]{0,9})\z`)
)

var signs = strings.Fields("--> <=> << >> <> <= >= ( ) { } ^ + - ! ~ < > = *")

func inBounds(number string) bool {
	n, err := strconv.ParseInt(number, 10, 64)
	return plainNumber.MatchString(number) && err == nil && n >= -2147483647 && n <= 2147483647
}

// longestSign returns the empty text if text begins with no sign.
func longestSign(text string) string {
	longest := ""
	for _, s := range signs {
		if strings.HasPrefix(text, s) && len(s) > len(longest) {
			longest = s
		}
	}
	return longest
}

// byRules returns the token that text, not empty, begins with, and its bytes.
func byRules(text string) (lex.Token, string) {
	if w := wordForm.FindString(text); w != "" {
		return orBad(lex.Word, w, w, len(w) <= 32)
	}
	if n := numberForm.FindString(text); n != "" {
		return orBad(lex.Num, n, n, inBounds(n))
	}
	if v := varForm.FindString(text); v != "" {
		return orBad(lex.Var, v, v[1:len(v)-1], len(v) <= 34)
	}
	if s := longestSign(text); s != "" {
		return lex.Token{Kind: lex.Sign, Text: s}, s
	}
	return lex.Token{Kind: lex.Bad, Text: text[:1]}, text[:1]
}

func orBad(kind int, piece, name string, ok bool) (lex.Token, string) {
	if !ok {
		return lex.Token{Kind: lex.Bad, Text: piece}, piece
	}
	return lex.Token{Kind: kind, Text: name}, piece
}

func allByRules(text string) []lex.Token {
	var l []lex.Token
	for at := 0; ; {
		at += len(gapForm.FindString(text[at:]))
		if at == len(text) {
			return append(l, lex.Token{Kind: lex.End, At: at})
		}
		k, piece := byRules(text[at:])
		k.At = at
		l = append(l, k)
		if k.Kind == lex.Bad {
			return l
		}
		at += len(piece)
	}
}

// ruled holds the tokens of a text to the rules, and to P5.2.
func ruled(t *testing.T, text string) {
	t.Helper()
	l := collected(lex.Tokens(text))
	same(t, "the tokens of "+strconv.Quote(text), l, allByRules(text))
	same(t, "All of "+strconv.Quote(text), lex.All(text), l)
	gaps(t, text, l)
	again(t, text, l)
}

// piece returns the bytes that a token has in its text.
func piece(k lex.Token) string {
	if k.Kind == lex.Var {
		return "<" + k.Text + ">"
	}
	return k.Text
}

// gaps takes the tokens out of the text, and looks at what is left.
func gaps(t *testing.T, text string, l []lex.Token) {
	t.Helper()
	at := 0
	for _, k := range l {
		if k.At < at || k.At > len(text) || !strings.HasPrefix(text[k.At:], piece(k)) {
			t.Fatalf("the token %s is not in %q, behind the one in front of it", told([]lex.Token{k}), text)
		}
		if gap := text[at:k.At]; gapForm.FindString(gap) != gap {
			t.Errorf("%q is between two tokens of %q", gap, text)
		}
		at = k.At + len(piece(k))
	}
	if n := len(l); n == 0 || l[n-1].Kind != lex.Bad && at != len(text) {
		t.Errorf("the tokens of %q end at %d", text, at)
	}
}

// again joins the Texts and looks whether the tokens are the same, apart from where they are.
func again(t *testing.T, text string, l []lex.Token) {
	t.Helper()
	var pieces []string
	moved := slices.Clone(l)
	at := 0
	for i, k := range l {
		pieces = append(pieces, piece(k))
		moved[i].At = at
		at += len(piece(k)) + 1
	}
	joined := strings.Join(pieces, " ")
	same(t, "the tokens of "+strconv.Quote(text)+", joined", collected(lex.Tokens(joined)), moved)
}

// P5.1

func TestKinds(t *testing.T) {
	equal(t, "the kinds", [...]int{lex.Word, lex.Num, lex.Var, lex.Sign, lex.End, lex.Bad}, [...]int{1, 2, 3, 4, 5, 6})
}

func TestTokens(t *testing.T) {
	for _, c := range []struct{ text, want string }{
		{"(<s> ^x -5)", "sign:(@0 var:s@1 sign:^@5 word:x@6 num:-5@8 sign:)@10 end:@11"},
		{"a<b", "word:a@0 sign:<@1 word:b@2 end:@3"},
		{"", "end:@0"},
		{" ", "end:@1"},
		{"\t\r\n \n", "end:@5"},
		{"#", "end:@1"},
		{"# no tokens ( here", "end:@18"},
		{"# a\nb#c\n", "word:b@4 end:@8"},
		{"#\n#\n#\na", "word:a@6 end:@7"},
		{"a# b\r c", "word:a@0 end:@7"},
		{"a # (# # \n\t# \xff\x00\r\n7#", "word:a@0 num:7@17 end:@19"},
		{" a \n b ", "word:a@1 word:b@5 end:@7"},
		{"sp {a (state <s> ^x 1) --> (<s> ^y <s> +)}",
			"word:sp@0 sign:{@3 word:a@4 sign:(@6 word:state@7 var:s@13 sign:^@17 word:x@18 num:1@20 sign:)@21 sign:-->@23" +
				" sign:(@27 var:s@28 sign:^@32 word:y@33 var:s@35 sign:+@39 sign:)@40 sign:}@41 end:@42"},
		{"<< a b >>", "sign:<<@0 word:a@3 word:b@5 sign:>>@7 end:@9"},
		{"{ <> <x> <=> <y> }", "sign:{@0 sign:<>@2 var:x@5 sign:<=>@9 var:y@13 sign:}@17 end:@18"},
	} {
		same(t, "the tokens of "+strconv.Quote(c.text), collected(lex.Tokens(c.text)), want(t, c.want))
		ruled(t, c.text)
	}
}

func TestWords(t *testing.T) {
	for _, c := range []struct{ text, want string }{
		{"no-change", "word:no-change@0 end:@9"},
		{"a-", "word:a-@0 end:@2"},
		{"a-->b", "word:a--@0 sign:>@3 word:b@4 end:@5"},
		{"a_1-b2", "word:a_1-b2@0 end:@6"},
		{"a-5", "word:a-5@0 end:@3"},
		{"x1(y", "word:x1@0 sign:(@2 word:y@3 end:@4"},
		{"a+b", "word:a@0 sign:+@1 word:b@2 end:@3"},
		{"aB", "word:a@0 bad:B@1"},
		{"a.b", "word:a@0 bad:.@1"},
		{"_a", "bad:_@0"},
		{"S1", "bad:S@0"},
	} {
		same(t, "the tokens of "+strconv.Quote(c.text), collected(lex.Tokens(c.text)), want(t, c.want))
		ruled(t, c.text)
	}
}

func TestNumbers(t *testing.T) {
	for _, c := range []struct{ text, want string }{
		{"0", "num:0@0 end:@1"},
		{"10 -10", "num:10@0 num:-10@3 end:@6"},
		{"5-3", "num:5@0 num:-3@1 end:@3"},
		{"5--3", "num:5@0 sign:-@1 num:-3@2 end:@4"},
		{"5 - 3", "num:5@0 sign:-@2 num:3@4 end:@5"},
		{"--5", "sign:-@0 num:-5@1 end:@3"},
		{"---5", "sign:-@0 sign:-@1 num:-5@2 end:@4"},
		{"-->5", "sign:-->@0 num:5@3 end:@4"},
		{"+5", "sign:+@0 num:5@1 end:@2"},
		{"7a", "num:7@0 word:a@1 end:@2"},
		{"7-a", "num:7@0 sign:-@1 word:a@2 end:@3"},
		{"-a", "sign:-@0 word:a@1 end:@2"},
		{"-", "sign:-@0 end:@1"},
		{"2147483647", "num:2147483647@0 end:@10"},
		{"-2147483647", "num:-2147483647@0 end:@11"},
		{"2147483648", "bad:2147483648@0"},
		{"-2147483648 a", "bad:-2147483648@0"},
		{"-0", "bad:-0@0"},
		{"-0 5", "bad:-0@0"},
		{"0-0", "num:0@0 bad:-0@1"},
		{"00", "bad:00@0"},
		{"007a", "bad:007@0"},
		{"-007", "bad:-007@0"},
		{"-00", "bad:-00@0"},
		{"0 0", "num:0@0 num:0@2 end:@3"},
		{"1_000", "num:1@0 bad:_@1"},
		{"1.5", "num:1@0 bad:.@1"},
		{"0x1", "num:0@0 word:x1@1 end:@3"},
		{"9999999999999999999999 a", "bad:9999999999999999999999@0"},
		{"18446744073709551617", "bad:18446744073709551617@0"},
		{"-9223372036854775808", "bad:-9223372036854775808@0"},
		{"٣", "bad:\xd9@0"},
	} {
		same(t, "the tokens of "+strconv.Quote(c.text), collected(lex.Tokens(c.text)), want(t, c.want))
		ruled(t, c.text)
	}
}

func TestNumbersAboutTheirBounds(t *testing.T) {
	for _, most := range []int{0, api.MaxSeq, api.MaxInt, math.MaxUint32} {
		for n := most - 20; n <= most+20; n++ {
			text := strconv.Itoa(n)
			kind := lex.Bad
			if n >= -api.MaxInt && n <= api.MaxInt {
				kind = lex.Num
			}
			equal(t, "the first token of "+text, lex.All(text)[0], lex.Token{Kind: kind, Text: text})
			ruled(t, text)
			ruled(t, "-"+text)
			ruled(t, "0"+text)
			ruled(t, "("+text+"(")
		}
	}
}

func TestVariables(t *testing.T) {
	for _, c := range []struct{ text, want string }{
		{"<s>", "var:s@0 end:@3"},
		{"<a-b_1>", "var:a-b_1@0 end:@7"},
		{"<a->", "var:a-@0 end:@4"},
		{"<a-->", "var:a--@0 end:@5"},
		{"<a><b>", "var:a@0 var:b@3 end:@6"},
		{"<a>>", "var:a@0 sign:>@3 end:@4"},
		{"<a>=", "var:a@0 sign:=@3 end:@4"},
		{"<a>b", "var:a@0 word:b@3 end:@4"},
		{"<<a>", "sign:<<@0 word:a@2 sign:>@3 end:@4"},
		{"<<a>>", "sign:<<@0 word:a@2 sign:>>@3 end:@5"},
		{"<<<a>>>", "sign:<<@0 var:a@2 sign:>>@5 end:@7"},
		{"<a", "sign:<@0 word:a@1 end:@2"},
		{"<a b>", "sign:<@0 word:a@1 word:b@3 sign:>@4 end:@5"},
		{"<a >", "sign:<@0 word:a@1 sign:>@3 end:@4"},
		{"< a>", "sign:<@0 word:a@2 sign:>@3 end:@4"},
		{"<a#>", "sign:<@0 word:a@1 end:@4"},
		{"<a<b>", "sign:<@0 word:a@1 var:b@2 end:@5"},
		{"<1>", "sign:<@0 num:1@1 sign:>@2 end:@3"},
		{"<-a>", "sign:<@0 sign:-@1 word:a@2 sign:>@3 end:@4"},
		{"<A>", "sign:<@0 bad:A@1"},
		{"<aB>", "sign:<@0 word:a@1 bad:B@2"},
		{"<_>", "sign:<@0 bad:_@1"},
		{"=<a>", "sign:=@0 var:a@1 end:@4"},
		{"a<b>", "word:a@0 var:b@1 end:@4"},
	} {
		same(t, "the tokens of "+strconv.Quote(c.text), collected(lex.Tokens(c.text)), want(t, c.want))
		ruled(t, c.text)
	}
}

func TestLengthsOfNames(t *testing.T) {
	for n := 1; n <= 100; n++ {
		name := "a" + strings.Repeat("-_09z", 20)[:n-1]
		wanted := []lex.Token{{Kind: lex.Word, Text: name}, {Kind: lex.Var, Text: name, At: n + 1}, {Kind: lex.End, At: 2*n + 3}}
		if n > 32 {
			wanted = []lex.Token{{Kind: lex.Bad, Text: name}}
			bad := lex.Token{Kind: lex.Bad, Text: "<" + name + ">"}
			same(t, "a variable of "+strconv.Itoa(n)+" bytes", lex.All("<"+name+"> a"), []lex.Token{bad})
			bad.At = 1
			same(t, "the same behind a sign", lex.All("("+"<"+name+">"), []lex.Token{{Kind: lex.Sign, Text: "("}, bad})
			open := []lex.Token{{Kind: lex.Sign, Text: "<"}, {Kind: lex.Bad, Text: name, At: 1}}
			same(t, "the same, not closed", lex.All("<"+name+" >"), open)
		}
		same(t, "a word and a variable of "+strconv.Itoa(n)+" bytes", lex.All(name+" <"+name+">"), wanted)
		ruled(t, name+" <"+name+">")
		ruled(t, "<"+name+"> a")
		ruled(t, "<"+name)
	}
}

func TestSigns(t *testing.T) {
	for _, s := range signs {
		same(t, "the tokens of "+s, lex.All(s), []lex.Token{{Kind: lex.Sign, Text: s}, {Kind: lex.End, At: len(s)}})
	}
	for _, c := range []struct{ text, want string }{
		{"<=><=<>", "sign:<=>@0 sign:<=@3 sign:<>@5 end:@7"},
		{"<<=>", "sign:<<@0 sign:=@2 sign:>@3 end:@4"},
		{"<==>", "sign:<=@0 sign:=@2 sign:>@3 end:@4"},
		{"<= >", "sign:<=@0 sign:>@3 end:@4"},
		{">>=", "sign:>>@0 sign:=@2 end:@3"},
		{">=>", "sign:>=@0 sign:>@2 end:@3"},
		{"=>", "sign:=@0 sign:>@1 end:@2"},
		{"==", "sign:=@0 sign:=@1 end:@2"},
		{"->", "sign:-@0 sign:>@1 end:@2"},
		{"--", "sign:-@0 sign:-@1 end:@2"},
		{"--->", "sign:-@0 sign:-->@1 end:@4"},
		{"-->>", "sign:-->@0 sign:>@3 end:@4"},
		{"-- >", "sign:-@0 sign:-@1 sign:>@3 end:@4"},
		{"-{(", "sign:-@0 sign:{@1 sign:(@2 end:@3"},
		{"-(^x)", "sign:-@0 sign:(@1 sign:^@2 word:x@3 sign:)@4 end:@5"},
		{"-^y*+!~", "sign:-@0 sign:^@1 word:y@2 sign:*@3 sign:+@4 sign:!@5 sign:~@6 end:@7"},
	} {
		same(t, "the tokens of "+c.text, lex.All(c.text), want(t, c.want))
	}
}

func TestSignsSideBySide(t *testing.T) {
	const marks = "<>=-(){}^+!~*"
	for i := range len(marks) {
		for j := range len(marks) {
			for k := range len(marks) {
				ruled(t, marks[i:i+1]+marks[j:j+1]+marks[k:k+1])
			}
		}
	}
	for _, a := range signs {
		for _, b := range signs {
			ruled(t, a+b)
			ruled(t, a+" "+b)
		}
	}
}

func TestEachByte(t *testing.T) {
	for b := range 256 {
		one := string([]byte{byte(b)})
		kind := lex.Bad
		switch {
		case b >= 'a' && b <= 'z':
			kind = lex.Word
		case b >= '0' && b <= '9':
			kind = lex.Num
		case strings.Contains("(){}^+-!~<>=*", one):
			kind = lex.Sign
		case strings.Contains(" \t\n\r#", one):
			equal(t, "the first token of "+strconv.Quote(one), lex.All(one)[0], lex.Token{Kind: lex.End, At: 1})
			continue
		}
		equal(t, "the first token of "+strconv.Quote(one), lex.All(one)[0], lex.Token{Kind: kind, Text: one})
	}
}

func TestEachByteAmongOthers(t *testing.T) {
	for b := range 256 {
		one := string([]byte{byte(b)})
		for _, text := range []string{one, one + one, "a" + one, one + "a", "a" + one + "b", "5" + one + "6", "-" + one, "<" + one + ">", "<a" + one + "b>", "<a" + one, " " + one + " ", "# " + one + "\nc", "(" + one + ")", "<=" + one, ">" + one, "0" + one} {
			ruled(t, text)
		}
	}
}

func TestABadTokenEndsTheSequence(t *testing.T) {
	for _, bad := range []string{"-0", "007", "-01", "2147483648", "A", ".", "\"", "\x00", "\v", "\f", "\xff", "\xc2", "[", "&", "|", "@", ",", ";", "/", "\\", "$",
		strings.Repeat("a", 33), "<" + strings.Repeat("v", 33) + ">"} {
		for _, rest := range []string{"", " ", " a b", "\n<s> ^x", " " + bad, " # a"} {
			front := []lex.Token{{Kind: lex.Sign, Text: "("}, {Kind: lex.Var, Text: "s", At: 2}}
			wanted := append(front, lex.Token{Kind: lex.Bad, Text: bad, At: 6})
			same(t, "the tokens with "+strconv.Quote(bad), lex.All("( <s> "+bad+rest), wanted)
			ruled(t, "( <s> "+bad+rest)
		}
	}
	same(t, "the tokens of a letter of two bytes", lex.All("a ä"), []lex.Token{{Kind: lex.Word, Text: "a"}, {Kind: lex.Bad, Text: "\xc3", At: 2}})
}

func TestEndIsBehindBlanksAndRemarks(t *testing.T) {
	for _, gap := range []string{"", " ", "\n", " \t\r\n", "#", "#\n", " # a\n", "# a\n# b", "#\n\n# <s> # -0"} {
		wanted := []lex.Token{{Kind: lex.Word, Text: "a", At: len(gap)}, {Kind: lex.End, At: 2*len(gap) + 1}}
		if strings.Contains(gap, "#") && !strings.HasSuffix(gap, "\n") {
			wanted = []lex.Token{{Kind: lex.End, At: 2*len(gap) + 1}}
		}
		same(t, "the tokens with "+strconv.Quote(gap)+" on both sides", lex.All(gap+"a"+gap), wanted)
		same(t, "the tokens of "+strconv.Quote(gap), lex.All(gap), []lex.Token{{Kind: lex.End, At: len(gap)}})
	}
}

func TestAllReturnsNewMemory(t *testing.T) {
	text := "a b c d (e f) <g> -5 h"
	whole := collected(lex.Tokens(text))
	one, two := lex.All(text), lex.All(text)
	for i := range one {
		one[i] = lex.Token{Kind: lex.Bad, Text: "other", At: -1}
	}
	spare := one[len(one):cap(one)]
	for i := range spare {
		spare[i] = lex.Token{Kind: lex.Bad, Text: "other", At: -1}
	}
	same(t, "another list", two, whole)
	same(t, "a third list", lex.All(text), whole)
	same(t, "the sequence", collected(lex.Tokens(text)), whole)
}

// P5.2, and P5.1 by the rules, over many texts.

func TestAllShortTexts(t *testing.T) {
	const bytes = "az09-_<>= #\n(.A\xc3"
	level := []string{""}
	for range 4 {
		var next []string
		for _, text := range level {
			ruled(t, text)
			for i := range len(bytes) {
				next = append(next, text+bytes[i:i+1])
			}
		}
		level = next
		if t.Failed() {
			return
		}
	}
	for _, text := range level {
		ruled(t, text)
	}
}

// steps returns a function that yields numbers below its argument: many and mixed, but each time the same.
func steps(seed uint64) func(below int) int {
	return func(below int) int {
		seed = seed*6364136223846793005 + 1442695040888963407
		return int(seed >> 33 % uint64(below))
	}
}

func TestLongerTexts(t *testing.T) {
	pieces := append(slices.Clone(signs), "a", "state", "no-change", "x_1", "0", "5", "-7", "2147483647", "-2147483647", "<s>", "<v-1>", "<", "<a", "-", " ", " ", "\n", "\t", "\r", "# r\n", "#", "b", "z9",
		strings.Repeat("w", 32), "<"+strings.Repeat("w", 32)+">")
	rare := []string{"-0", "00", "A", "\xff", "2147483648", strings.Repeat("w", 33), "<" + strings.Repeat("w", 33) + ">"}
	next := steps(5)
	for i := 0; i < 4000 && !t.Failed(); i++ {
		var text strings.Builder
		for range next(60) {
			if next(100) == 0 {
				text.WriteString(rare[next(len(rare))])
			} else {
				text.WriteString(pieces[next(len(pieces))])
			}
			if next(2) == 0 {
				text.WriteString(" ")
			}
		}
		ruled(t, text.String())
	}
}

// Each of these would take hours if a token were looked at from each of its bytes on.
func TestLongTexts(t *testing.T) {
	const n = 1 << 20
	for _, c := range []struct {
		text  string
		count int
		last  lex.Token
	}{
		{strings.Repeat(" ", n), 1, lex.Token{Kind: lex.End, At: n}},
		{strings.Repeat("#\n", n), 1, lex.Token{Kind: lex.End, At: 2 * n}},
		{strings.Repeat("#", n), 1, lex.Token{Kind: lex.End, At: n}},
		{strings.Repeat("a ", n), n + 1, lex.Token{Kind: lex.End, At: 2 * n}},
		{strings.Repeat("<a", n), 2*n + 1, lex.Token{Kind: lex.End, At: 2 * n}},
		{strings.Repeat("<a>", n), n + 1, lex.Token{Kind: lex.End, At: 3 * n}},
		{strings.Repeat("<", n), n/2 + 1, lex.Token{Kind: lex.End, At: n}},
		{strings.Repeat("-", n), n + 1, lex.Token{Kind: lex.End, At: n}},
		{strings.Repeat("-5", n), n + 1, lex.Token{Kind: lex.End, At: 2 * n}},
		{strings.Repeat("a", n), 1, lex.Token{Kind: lex.Bad, Text: strings.Repeat("a", n)}},
		{strings.Repeat("9", n), 1, lex.Token{Kind: lex.Bad, Text: strings.Repeat("9", n)}},
		{"<" + strings.Repeat("a", n) + ">", 1, lex.Token{Kind: lex.Bad, Text: "<" + strings.Repeat("a", n) + ">"}},
		{"<" + strings.Repeat("a", n), 2, lex.Token{Kind: lex.Bad, Text: strings.Repeat("a", n), At: 1}},
	} {
		l := lex.All(c.text)
		what := "a long text of " + strconv.Quote(c.text[:3])
		if len(l) != c.count || l[len(l)-1] != c.last {
			t.Errorf("%s: %d tokens", what, len(l))
		}
	}
}

// R7

const sentence = "sp {a # r\n (<s> ^x -5) --> < b}"

func TestTokensAreLeftEarly(t *testing.T) {
	for _, text := range []string{sentence, "a b -0 c", "", "A"} {
		whole := allByRules(text)
		l := lex.Tokens(text)
		for n := 1; n <= len(whole); n++ {
			var got []lex.Token
			l(func(k lex.Token) bool {
				got = append(got, k)
				return len(got) != n
			})
			same(t, "the tokens, left", got, whole[:n])
		}
		same(t, "the tokens, after they were left", collected(l), whole)
	}
}

func TestTokensAreRangedOverAgain(t *testing.T) {
	whole := allByRules(sentence)
	l := lex.Tokens(sentence)
	for range 3 {
		same(t, "the tokens, again", collected(l), whole)
	}
	var outer []lex.Token
	for k := range l {
		same(t, "the tokens within a loop over them", collected(l), whole)
		for other := range lex.Tokens("b -0") {
			equal(t, "the first token of another text", other, lex.Token{Kind: lex.Word, Text: "b"})
			break
		}
		outer = append(outer, k)
	}
	same(t, "the tokens, with loops within", outer, whole)
}

func TestALoopThatIsLeftTakesNoMemoryForTheRest(t *testing.T) {
	first := func(text string) float64 {
		return testing.AllocsPerRun(100, func() {
			for range lex.Tokens(text) {
				return
			}
		})
	}
	equal(t, "pieces of memory for the first token of many", first(strings.Repeat("a <b> -5 ", 10000)), first("a"))
}
