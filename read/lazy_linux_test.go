package read_test

import (
	"runtime/debug"
	"strings"
	"syscall"
	"testing"
	"unsafe"

	"ponder/api"
	"ponder/read"
)

// closed returns a text that begins with front, and of which no byte behind front
// can be read: who reads there panics.
func closed(t *testing.T, front string) string {
	t.Helper()
	page := syscall.Getpagesize()
	mem, err := syscall.Mmap(-1, 0, 2*page, syscall.PROT_READ|syscall.PROT_WRITE, syscall.MAP_ANON|syscall.MAP_PRIVATE)
	if err != nil {
		t.Skip("no memory of one's own: ", err)
	}
	t.Cleanup(func() { syscall.Munmap(mem) })
	from := page - len(front)
	copy(mem[from:], front)
	if err := syscall.Mprotect(mem[page:], syscall.PROT_NONE); err != nil {
		t.Skip("no memory that can't be read: ", err)
	}
	return unsafe.String(&mem[from], 2*page-from)
}

// without runs do, and tells whether what can't be read was read.
func without(do func()) (tooFar bool) {
	defer debug.SetPanicOnFault(debug.SetPanicOnFault(true))
	defer func() { tooFar = recover() != nil }()
	do()
	return false
}

// blanksAndWord is behind what is asked for, and its word goes on where nothing can be read.
var blanksAndWord = " # x" + strings.Repeat("\n ", 50) + strings.Repeat("w", 200)

// P8.2: behind the production that was asked for nothing is read.
func TestEachReadsNoFartherThanAsked(t *testing.T) {
	front := ""
	for n, text := range []string{textOf("(<s> ^x)"), wholeText, textOf("-{-(<s> ^x)}")} {
		front += strings.TrimSpace(text)
		s := read.Each(closed(t, front+blanksAndWord))
		for more := range 2 {
			var l []string
			tooFar := without(func() {
				for p := range s {
					if l = append(l, told(p)); len(l) == n+1+more {
						break
					}
				}
			})
			equal(t, "whether more was read", tooFar, more == 1)
			equal(t, "how many there are", len(l), n+1)
		}
	}
}

func TestEachAloneReadsNothing(t *testing.T) {
	s := read.Each(closed(t, ""))
	equal(t, "whether the text is read in the loop", without(func() { s(func(api.Prod, api.Errno) bool { return true }) }), true)
}

// Behind the first error nothing is read.
func TestNothingIsReadBehindAnError(t *testing.T) {
	good := textOf("(<s> ^x)")
	for _, c := range []struct {
		text string
		err  api.Errno
	}{
		{"A", api.ErrText},
		{"x", api.ErrText},
		{"sp {a -->", api.ErrText},
		{"sp {a (<s>)", api.ErrText},
		{"sp {a (<s> ^x y z", api.ErrText},
		{"sp {a (<s> ^x y -{", api.ErrText},
		{"sp {a -{(<s> ^<< <v>", api.ErrText},
		{"sp {a -{(<s> ^x)} --> (<s> ^x (+ 1 <v> 3", api.ErrText},
		{"sp {a -{(<s> ^x)} --> (<s> ^x <v> > <v> <v>", api.ErrText},
		{textOf("(<s> ^{1 2 3 4 5})"), api.ErrMany},
		{textOf("-{-{-{-{(<s> ^x)}}}}"), api.ErrNest},
	} {
		for _, front := range []string{"", good} {
			text := closed(t, front+c.text+blanksAndWord)
			var err, last, only api.Errno
			tooFar := without(func() {
				_, _, err = read.All(text)
				_, last = eachOf(read.Each(text))
				if front == "" {
					_, _, only = read.One(text)
				} else {
					only = c.err
				}
			})
			equal(t, "whether behind "+c.text+" more was read", tooFar, false)
			equal(t, "All's error", err, c.err)
			equal(t, "Each's error", last, c.err)
			equal(t, "One's error", only, c.err)
		}
	}
	text := closed(t, good+"sp"+blanksAndWord)
	tooFar := without(func() { read.One(text) })
	equal(t, "whether One reads behind a second production's beginning", tooFar, false)
}
