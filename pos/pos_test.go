package pos_test

import (
	"math"
	"slices"
	"strconv"
	"strings"
	"testing"
	"unsafe"

	"quoin/api"
	"quoin/pos"
)

// texts are ordinary ones, and all of up to 5 of these pieces: bytes 10, what stands near them, halves of runes and whole ones.
func texts() []string {
	all := []string{
		"package a;\nfunc f(x int)int{\n\treturn x+1;\n}\n",
		"a single line",
		"\n\n\nseveral behind each other\n\n\n",
		strings.Repeat("0123456789\n", 300),
		strings.Repeat("\n", 1000),
		"\u00e9\n\u20ac\n\U0001f600\n\u2028\u0085",
	}
	pieces := []string{"\n", "a", "\r", "\xe2\x82", "\u20ac", "\xff"}
	last := []string{""}
	for range 5 {
		all = append(all, last...)
		var longer []string
		for _, s := range last {
			for _, p := range pieces {
				longer = append(longer, s+p)
			}
		}
		last = longer
	}
	return append(all, last...)
}

// place counts byte by byte, as the words of P1.1 do.
func place(text string, at int) (line, col int) {
	line, col = 1, 1
	for i := range at {
		if text[i] == 10 {
			line, col = line+1, 1
		} else {
			col++
		}
	}
	return line, col
}

func wantPlace(t *testing.T, l *pos.Lines, at, line, col int, e api.Errno) {
	t.Helper()
	if gotLine, gotCol, got := l.Place(at); gotLine != line || gotCol != col || got != e {
		t.Errorf("Place(%d): %d, %d, %v; want %d, %d, %v", at, gotLine, gotCol, got, line, col, e)
	}
}

func wantAt(t *testing.T, l *pos.Lines, line, col, at int, e api.Errno) {
	t.Helper()
	if gotAt, got := l.At(line, col); gotAt != at || got != e {
		t.Errorf("At(%d, %d): %d, %v; want %d, %v", line, col, gotAt, got, at, e)
	}
}

func wantLine(t *testing.T, l *pos.Lines, n int, line string, e api.Errno) {
	t.Helper()
	if gotLine, got := l.Line(n); gotLine != line || got != e {
		t.Errorf("Line(%d): %q, %v; want %q, %v", n, gotLine, got, line, e)
	}
}

func wantCount(t *testing.T, l *pos.Lines, n int) {
	t.Helper()
	if got := l.Count(); got != n {
		t.Errorf("Count: %d; want %d", got, n)
	}
}

func TestExamples(t *testing.T) {
	l := pos.New("ab\nc")
	wantPlace(t, l, 1, 1, 2, api.OK)
	wantPlace(t, l, 2, 1, 3, api.OK)
	wantPlace(t, l, 3, 2, 1, api.OK)
	wantPlace(t, l, 4, 2, 2, api.OK)
	wantPlace(t, l, 5, 0, 0, api.ErrPosPlace)
	wantAt(t, l, 2, 2, 4, api.OK)
	wantAt(t, l, 2, 3, 0, api.ErrPosPlace)
	wantLine(t, l, 2, "c", api.OK)
	wantCount(t, l, 2)
}

// The numbers of the errors, as the chapter lists them.
func TestErrorNumbers(t *testing.T) {
	if api.OK != 0 || api.ErrArg != 1 || api.ErrPosPlace != 10 {
		t.Errorf("%d, %d, %d", int(api.OK), int(api.ErrArg), int(api.ErrPosPlace))
	}
}

// P1.1: every offset of every text.
func TestPlace(t *testing.T) {
	for _, text := range texts() {
		l := pos.New(text)
		for at := range len(text) + 1 {
			line, col := place(text, at)
			wantPlace(t, l, at, line, col, api.OK)
		}
		if t.Failed() {
			t.Fatalf("text %q", text)
		}
	}
}

// P1.1: the edges of a text, one by one.
func TestPlaceEdges(t *testing.T) {
	wantPlace(t, pos.New(""), 0, 1, 1, api.OK)
	wantPlace(t, pos.New("a"), 0, 1, 1, api.OK)
	wantPlace(t, pos.New("a"), 1, 1, 2, api.OK)
	ends := pos.New("a\n")
	wantPlace(t, ends, 1, 1, 2, api.OK)
	wantPlace(t, ends, 2, 2, 1, api.OK)
	several := pos.New("\n\n\na")
	wantPlace(t, several, 0, 1, 1, api.OK)
	wantPlace(t, several, 1, 2, 1, api.OK)
	wantPlace(t, several, 2, 3, 1, api.OK)
	wantPlace(t, several, 3, 4, 1, api.OK)
	wantPlace(t, several, 4, 4, 2, api.OK)
	wide := pos.New("\u20ac\n\U0001f600x") // columns count bytes
	wantPlace(t, wide, 3, 1, 4, api.OK)
	wantPlace(t, wide, 5, 2, 2, api.OK)
	wantPlace(t, wide, 8, 2, 5, api.OK)
	other := pos.New("a\r\u2028\u0085\v\fb") // only a byte 10 ends a line
	wantPlace(t, other, 9, 1, 10, api.OK)
}

// P1.1: offsets that are none.
func TestPlaceWrong(t *testing.T) {
	for _, text := range texts() {
		l := pos.New(text)
		for _, at := range []int{-1, -2, len(text) + 1, len(text) + 2, math.MinInt, math.MaxInt} {
			wantPlace(t, l, at, 0, 0, api.ErrPosPlace)
		}
	}
}

// P1.1: one line more than bytes 10.
func TestCount(t *testing.T) {
	wantCount(t, pos.New(""), 1)
	wantCount(t, pos.New("a"), 1)
	wantCount(t, pos.New("\n"), 2)
	wantCount(t, pos.New("a\nb\n"), 3)
	for _, text := range texts() {
		wantCount(t, pos.New(text), strings.Count(text, "\n")+1)
	}
}

// P1.2: every column of every line of every text, and those beside the first and the last one.
func TestAt(t *testing.T) {
	for _, text := range texts() {
		l := pos.New(text)
		begin := 0
		for i, line := range strings.Split(text, "\n") {
			for col := 1; col <= len(line)+1; col++ {
				wantAt(t, l, i+1, col, begin+col-1, api.OK)
			}
			for _, col := range []int{0, -1, len(line) + 2, len(line) + 3, math.MinInt, math.MaxInt} {
				wantAt(t, l, i+1, col, 0, api.ErrPosPlace)
			}
			begin += len(line) + 1
		}
		if t.Failed() {
			t.Fatalf("text %q", text)
		}
	}
}

// P1.2: the first and the last column of lines, one by one.
func TestAtEdges(t *testing.T) {
	wantAt(t, pos.New(""), 1, 1, 0, api.OK)
	wantAt(t, pos.New(""), 1, 2, 0, api.ErrPosPlace)
	ends := pos.New("ab\n")
	wantAt(t, ends, 1, 3, 2, api.OK)
	wantAt(t, ends, 1, 4, 0, api.ErrPosPlace)
	wantAt(t, ends, 2, 1, 3, api.OK)
	wantAt(t, ends, 2, 2, 0, api.ErrPosPlace)
	several := pos.New("\n\n")
	wantAt(t, several, 1, 1, 0, api.OK)
	wantAt(t, several, 1, 2, 0, api.ErrPosPlace)
	wantAt(t, several, 2, 1, 1, api.OK)
	wantAt(t, several, 3, 1, 2, api.OK)
}

// P1.2: lines that are none, whatever the column.
func TestAtWrongLine(t *testing.T) {
	for _, text := range texts() {
		l := pos.New(text)
		for _, line := range wrongLines(text) {
			for _, col := range []int{1, 0, -1, 2, math.MinInt, math.MaxInt} {
				wantAt(t, l, line, col, 0, api.ErrPosPlace)
			}
		}
	}
}

func wrongLines(text string) []int {
	n := strings.Count(text, "\n") + 1
	return []int{0, -1, n + 1, n + 2, math.MinInt, math.MaxInt}
}

// P1.2: every line of every text.
func TestLine(t *testing.T) {
	for _, text := range texts() {
		l := pos.New(text)
		for i, line := range strings.Split(text, "\n") {
			wantLine(t, l, i+1, line, api.OK)
		}
		if t.Failed() {
			t.Fatalf("text %q", text)
		}
	}
}

// P1.2: the edges of lines, one by one.
func TestLineEdges(t *testing.T) {
	wantLine(t, pos.New(""), 1, "", api.OK)
	wantLine(t, pos.New("\n"), 1, "", api.OK)
	wantLine(t, pos.New("\n"), 2, "", api.OK)
	wantLine(t, pos.New("a\r\nb"), 1, "a\r", api.OK)
	wantLine(t, pos.New("\xff\xe2\x82\n\xf0"), 1, "\xff\xe2\x82", api.OK)
	wantLine(t, pos.New("\xff\xe2\x82\n\xf0"), 2, "\xf0", api.OK)
}

// P1.2: lines that are none.
func TestLineWrong(t *testing.T) {
	for _, text := range texts() {
		l := pos.New(text)
		for _, n := range wrongLines(text) {
			wantLine(t, l, n, "", api.ErrPosPlace)
		}
	}
}

// P1.3: from offsets to lines and columns and back, and the other way round.
func TestInverse(t *testing.T) {
	for _, text := range texts() {
		l := pos.New(text)
		for at := range len(text) + 1 {
			line, col, e := l.Place(at)
			if e != api.OK {
				t.Fatalf("%q: Place(%d): %v", text, at, e)
			}
			wantAt(t, l, line, col, at, api.OK)
		}
		for n := 1; n <= l.Count(); n++ {
			line, e := l.Line(n)
			if e != api.OK {
				t.Fatalf("%q: Line(%d): %v", text, n, e)
			}
			for col := 1; col <= len(line)+1; col++ {
				at, e := l.At(n, col)
				if e != api.OK {
					t.Fatalf("%q: At(%d, %d): %v", text, n, col, e)
				}
				wantPlace(t, l, at, n, col, api.OK)
			}
		}
	}
}

// P1.3: the lines, joined, are the text.
func TestJoined(t *testing.T) {
	for _, text := range texts() {
		l := pos.New(text)
		var lines []string
		for n := 1; n <= l.Count(); n++ {
			line, e := l.Line(n)
			if e != api.OK {
				t.Fatalf("%q: Line(%d): %v", text, n, e)
			}
			lines = append(lines, line)
		}
		if got := strings.Join(lines, "\n"); got != text {
			t.Fatalf("%q; want %q", got, text)
		}
	}
}

// R1: a nil Lines, before any other error.
func TestNil(t *testing.T) {
	var l *pos.Lines
	for _, n := range []int{0, 1, -1, math.MinInt, math.MaxInt} {
		wantPlace(t, l, n, 0, 0, api.ErrArg)
		wantAt(t, l, n, n, 0, api.ErrArg)
		wantLine(t, l, n, "", api.ErrArg)
	}
	wantCount(t, l, 0)
}

// R1: a Lines that New did not make is that of the empty text.
func TestZeroLines(t *testing.T) {
	l := new(pos.Lines)
	wantCount(t, l, 1)
	wantPlace(t, l, 0, 1, 1, api.OK)
	wantPlace(t, l, 1, 0, 0, api.ErrPosPlace)
	wantAt(t, l, 1, 1, 0, api.OK)
	wantAt(t, l, 1, 2, 0, api.ErrPosPlace)
	wantAt(t, l, 2, 1, 0, api.ErrPosPlace)
	wantLine(t, l, 1, "", api.OK)
	wantLine(t, l, 2, "", api.ErrPosPlace)
}

// R3, R5: errors and other texts in between change no answer.
func TestRepeated(t *testing.T) {
	l := pos.New("ab\n\nc")
	first := answers(l)
	pos.New("x\ny\nz").Place(3)
	l.Place(-1)
	l.At(9, 9)
	l.Line(0)
	if again := answers(l); !slices.Equal(first, again) {
		t.Errorf("%v; then %v", first, again)
	}
	if other := answers(pos.New("ab\n\nc")); !slices.Equal(first, other) {
		t.Errorf("%v; another Lines: %v", first, other)
	}
}

// answers tells all that a short Lines answers.
func answers(l *pos.Lines) []string {
	told := []string{strconv.Itoa(l.Count())}
	for n := -1; n <= 7; n++ {
		line, col, e := l.Place(n)
		told = append(told, strconv.Itoa(line), strconv.Itoa(col), strconv.Itoa(int(e)))
		text, e := l.Line(n)
		told = append(told, text, strconv.Itoa(int(e)))
		for c := -1; c <= 4; c++ {
			at, e := l.At(n, c)
			told = append(told, strconv.Itoa(at), strconv.Itoa(int(e)))
		}
	}
	return told
}

// R4: a line shares no memory with the text, nor with the same line asked for again.
func TestNewMemory(t *testing.T) {
	text := strings.Repeat("a", 100)
	l := pos.New(text)
	one, _ := l.Line(1)
	two, _ := l.Line(1)
	if unsafe.StringData(one) == unsafe.StringData(text) || unsafe.StringData(one) == unsafe.StringData(two) {
		t.Error("memory is shared")
	}
}
