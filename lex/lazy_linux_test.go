package lex_test

import (
	"runtime/debug"
	"strconv"
	"strings"
	"syscall"
	"testing"
	"unsafe"

	"ponder/lex"
)

// closed returns a text that begins with front, and of which no byte behind front
// can be read: who reads there panics.
func closed(t *testing.T, front string) string {
	t.Helper()
	page := syscall.Getpagesize()
	mem, err := syscall.Mmap(-1, 0, 2*page, syscall.PROT_READ|syscall.PROT_WRITE, syscall.MAP_ANON|syscall.MAP_PRIVATE)
	if err != nil {
		t.Skip("no memory of one's own: ", err)
	}
	t.Cleanup(func() { syscall.Munmap(mem) })
	from := page - len(front)
	copy(mem[from:], front)
	if err := syscall.Mprotect(mem[page:], syscall.PROT_NONE); err != nil {
		t.Skip("no memory that can't be read: ", err)
	}
	return unsafe.String(&mem[from], 2*page-from)
}

// taken returns the first n tokens, and whether what can't be read was read.
func taken(text string, n int) (l []lex.Token, tooFar bool) {
	defer debug.SetPanicOnFault(debug.SetPanicOnFault(true))
	defer func() { tooFar = recover() != nil }()
	for k := range lex.Tokens(text) {
		k.Text = strings.Clone(k.Text)
		l = append(l, k)
		if len(l) == n {
			break
		}
	}
	return l, false
}

// Ways: Tokens reads no farther than it is asked. Behind the tokens that are asked
// for there is a word that goes on where nothing can be read.
func TestTokensReadNoFartherThanAsked(t *testing.T) {
	const asked = "(<s> ^x-1 # r\n -5 --> < b <=> }"
	whole := allByRules(asked)
	for n := 1; n < len(whole); n++ {
		front := asked[:whole[n-1].At+len(piece(whole[n-1]))]
		text := closed(t, front+" "+strings.Repeat("\n ", 50)+strings.Repeat("w", 200))
		got, tooFar := taken(text, n)
		equal(t, "whether for "+strconv.Itoa(n)+" tokens more was read", tooFar, false)
		same(t, "the tokens", got, whole[:n])
		_, tooFar = taken(text, n+1)
		equal(t, "whether for one more it was", tooFar, true)
	}
}

func TestTokensReadNothingBehindABadOne(t *testing.T) {
	for _, bad := range []string{"-0", "A", "\xff", strings.Repeat("a", 33), "<" + strings.Repeat("v", 33) + ">"} {
		text := closed(t, "( "+bad+strings.Repeat(" ", 100)+strings.Repeat("w", 200))
		got, tooFar := taken(text, -1)
		equal(t, "whether behind "+strconv.Quote(bad)+" more was read", tooFar, false)
		same(t, "the tokens", got, []lex.Token{{Kind: lex.Sign, Text: "("}, {Kind: lex.Bad, Text: bad, At: 2}})
	}
}

func TestTokensAloneReadNothing(t *testing.T) {
	text := closed(t, "")
	lex.Tokens(text)
	_, tooFar := taken(text, 1)
	equal(t, "whether the first token was looked for there", tooFar, true)
}
