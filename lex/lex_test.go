package lex_test

import (
	"regexp"
	"slices"
	"strconv"
	"strings"
	"testing"
	"unsafe"

	"quoin/api"
	"quoin/lex"
)

func words() []string {
	return strings.Fields("package import type struct interface func let if else for return new true false int bool text")
}

func token(kind, at int, text string) api.Token {
	return api.Token{Kind: kind, At: at, End: at + len(text), Text: text}
}

func wantTokens(t *testing.T, text string, want ...api.Token) {
	t.Helper()
	got, d := lex.All(text)
	if d != (api.Diag{}) || !slices.Equal(got, want) {
		t.Errorf("All(%.60q): %v, %v; want %v", text, got, d, want)
	}
}

func wantWrong(t *testing.T, text string, at, code int) {
	t.Helper()
	got, d := lex.All(text)
	if len(got) != 0 || d != (api.Diag{At: at, Code: code}) {
		t.Errorf("All(%.60q): %d tokens, %v; want error %d at %d", text, len(got), d, code, at)
	}
}

// one wants a text that is one token.
func one(t *testing.T, kind int, text string) {
	t.Helper()
	wantTokens(t, text, token(kind, 0, text), token(api.TEnd, len(text), ""))
}

func TestExamples(t *testing.T) {
	wantWrong(t, "let x1=07;", 7, api.DNumber)
	wantTokens(t, "a==b // c", token(api.TName, 0, "a"), token(api.TSymbol, 1, "=="), token(api.TName, 3, "b"), token(api.TEnd, 9, ""))
	wantWrong(t, `"a b" "`, 6, api.DText)
	wantWrong(t, "if(x&y", 4, api.DByte)
}

// The numbers of kinds, codes and limits, as the chapter lists them.
func TestNumbers(t *testing.T) {
	if !slices.Equal([]int{api.TEnd, api.TName, api.TNumber, api.TText, api.TSymbol, api.TWord}, []int{0, 1, 2, 3, 4, 5}) {
		t.Error("kinds")
	}
	if !slices.Equal([]int{api.DByte, api.DNumber, api.DText, api.DLong, api.DDeep}, []int{1, 2, 3, 4, 6}) {
		t.Error("codes")
	}
	if !slices.Equal([]int{api.MaxTokens, api.MaxDigits, api.MaxText, api.MaxName}, []int{4000, 15, 200, 40}) {
		t.Error("limits")
	}
}

// P2.1: the 17 words.
func TestWord(t *testing.T) {
	if len(words()) != 17 {
		t.Fatal(len(words()))
	}
	for _, w := range words() {
		if !lex.Word(w) {
			t.Errorf("Word(%q): false", w)
		}
	}
}

// P2.1: what is no word: all that is one byte away from one, and other strings.
func TestNoWord(t *testing.T) {
	wrong := []string{"", " ", "a", "_", "var", "while", "string", "nil", "any", "map", "break", "const", "struct{}", "If", "INT", "typ", "texts", "\xff", "\x00", strings.Repeat("int", 1000)}
	for _, w := range words() {
		wrong = append(wrong, strings.ToUpper(w), strings.ToUpper(w[:1])+w[1:], w+w, w+"\x00")
		for i := range len(w) + 1 {
			for _, b := range "a _0\n" {
				wrong = append(wrong, w[:i]+string(b)+w[i:])
			}
			if i < len(w) {
				wrong = append(wrong, w[:i]+w[i+1:], w[:i]+string(w[i]^0x20)+w[i+1:])
			}
		}
	}
	for _, s := range wrong {
		if lex.Word(s) != slices.Contains(words(), s) {
			t.Errorf("Word(%q): %v", s, lex.Word(s))
		}
	}
}

// P2.2: a token is what its first byte determines: each byte alone.
func TestFirstByte(t *testing.T) {
	for b := range 256 {
		s := string([]byte{byte(b)})
		switch {
		case strings.Contains("\t\n\r ", s):
			wantTokens(t, s, token(api.TEnd, 1, ""))
		case 'A' <= b && b <= 'Z' || 'a' <= b && b <= 'z' || b == '_':
			one(t, api.TName, s)
		case '0' <= b && b <= '9':
			one(t, api.TNumber, s)
		case b == '"':
			wantWrong(t, s, 0, api.DText)
		case strings.Contains("(){}[],;.=<+-*!", s):
			one(t, api.TSymbol, s)
		default:
			wantWrong(t, s, 0, api.DByte)
		}
	}
}

// P2.2: which bytes go on a name, and which a number.
func TestRuns(t *testing.T) {
	for b := range 256 {
		s := string([]byte{byte(b)})
		digit := '0' <= b && b <= '9'
		letter := 'A' <= b && b <= 'Z' || 'a' <= b && b <= 'z' || b == '_'
		for _, first := range []string{"a", "Z", "_", "z9", "int_"} {
			got, _ := lex.All(first + s + ";")
			goesOn := len(got) > 0 && got[0] == token(api.TName, 0, first+s)
			if goesOn != (digit || letter) {
				t.Errorf("name %q, byte %d: %v", first, b, got)
			}
		}
		got, _ := lex.All("1" + s + ";")
		if goesOn := len(got) > 0 && got[0] == token(api.TNumber, 0, "1"+s); goesOn != digit {
			t.Errorf("number, byte %d: %v", b, got)
		}
	}
}

// P2.2: words are tokens of their own kind, what is longer or shorter is a name.
func TestWordTokens(t *testing.T) {
	for _, w := range words() {
		one(t, api.TWord, w)
		one(t, api.TName, w+"s")
		one(t, api.TName, w+"_")
		one(t, api.TName, w+"1")
		one(t, api.TName, "_"+w)
		one(t, api.TName, w[:len(w)-1]+"x")
		one(t, api.TName, strings.ToUpper(w))
	}
}

// P2.2: tokens that are written directly behind each other.
func TestDirectlyBehind(t *testing.T) {
	wantTokens(t, "12ab", token(api.TNumber, 0, "12"), token(api.TName, 2, "ab"), token(api.TEnd, 4, ""))
	wantTokens(t, `a"b"c`, token(api.TName, 0, "a"), token(api.TText, 1, `"b"`), token(api.TName, 4, "c"), token(api.TEnd, 5, ""))
	wantTokens(t, `"""x"`, token(api.TText, 0, `""`), token(api.TText, 2, `"x"`), token(api.TEnd, 5, ""))
	wantTokens(t, "new0 ", token(api.TName, 0, "new0"), token(api.TEnd, 5, ""))
	wantTokens(t, "x.int", token(api.TName, 0, "x"), token(api.TSymbol, 1, "."), token(api.TWord, 2, "int"), token(api.TEnd, 5, ""))
	wantTokens(t, "-1", token(api.TSymbol, 0, "-"), token(api.TNumber, 1, "1"), token(api.TEnd, 2, ""))
	wantTokens(t, "0a", token(api.TNumber, 0, "0"), token(api.TName, 1, "a"), token(api.TEnd, 2, ""))
}

// P2.2: symbols of two bytes beside those of one.
func TestSymbols(t *testing.T) {
	eq := func(at int) api.Token { return token(api.TSymbol, at, "==") }
	is := func(at int) api.Token { return token(api.TSymbol, at, "=") }
	wantTokens(t, "==", eq(0), token(api.TEnd, 2, ""))
	wantTokens(t, "=", is(0), token(api.TEnd, 1, ""))
	wantTokens(t, "= =", is(0), is(2), token(api.TEnd, 3, ""))
	wantTokens(t, "===", eq(0), is(2), token(api.TEnd, 3, ""))
	wantTokens(t, "====", eq(0), eq(2), token(api.TEnd, 4, ""))
	wantTokens(t, "!==", token(api.TSymbol, 0, "!"), eq(1), token(api.TEnd, 3, ""))
	wantTokens(t, "<=", token(api.TSymbol, 0, "<"), is(1), token(api.TEnd, 2, ""))
	wantTokens(t, "&&", token(api.TSymbol, 0, "&&"), token(api.TEnd, 2, ""))
	wantTokens(t, "&&&&", token(api.TSymbol, 0, "&&"), token(api.TSymbol, 2, "&&"), token(api.TEnd, 4, ""))
	for _, s := range []string{"++", "--", "**", "!!", "<<", "..", ";;", "()", "{}", "[]", ",,"} {
		wantTokens(t, s, token(api.TSymbol, 0, s[:1]), token(api.TSymbol, 1, s[1:]), token(api.TEnd, 2, ""))
	}
	wantWrong(t, "&", 0, api.DByte)
	wantWrong(t, "& &", 0, api.DByte)
	wantWrong(t, "&&&", 2, api.DByte)
	wantWrong(t, "=&", 1, api.DByte)
}

// P2.2: an empty text, and texts of layout and comments alone.
func TestNothing(t *testing.T) {
	for _, s := range []string{"", " ", "\t", "\n", "\r", " \t\n\r ", "//", "///", "// a", "// a\n", "//\n//", " // \" & 00 \xff\x00\r\t\n\t// $", strings.Repeat("\n", 10000), strings.Repeat("// a b\n", 5000), "//" + strings.Repeat("//", 5000)} {
		wantTokens(t, s, token(api.TEnd, len(s), ""))
	}
}

// P2.2: where a comment begins and ends.
func TestComments(t *testing.T) {
	a, b := token(api.TName, 0, "a"), func(at int) api.Token { return token(api.TName, at, "b") }
	wantTokens(t, "a// b", a, token(api.TEnd, 5, ""))
	wantTokens(t, "a//", a, token(api.TEnd, 3, ""))
	wantTokens(t, "a//\nb", a, b(4), token(api.TEnd, 5, ""))
	wantTokens(t, "a//\rb", a, token(api.TEnd, 5, ""))
	wantTokens(t, "a//x//\nb", a, b(7), token(api.TEnd, 8, ""))
	wantTokens(t, "a///\nb", a, b(5), token(api.TEnd, 6, ""))
	wantTokens(t, "a//\n//\n b", a, b(8), token(api.TEnd, 9, ""))
	wantTokens(t, `"//"`, token(api.TText, 0, `"//"`), token(api.TEnd, 4, ""))
	wantTokens(t, "=//=\n=", token(api.TSymbol, 0, "="), token(api.TSymbol, 5, "="), token(api.TEnd, 6, ""))
	wantWrong(t, "/", 0, api.DByte)
	wantWrong(t, "/ /", 0, api.DByte)
	wantWrong(t, "a/", 1, api.DByte)
	wantWrong(t, "a/*b*/", 1, api.DByte)
	wantWrong(t, "/\n/", 0, api.DByte)
	wantWrong(t, "// \n/", 4, api.DByte)
}

// P2.2: other white space is no layout.
func TestNoLayout(t *testing.T) {
	for _, s := range []string{"\v", "\f", "\x00", "\x85", "\xa0", "\u00a0", "\u2028", "\ufeff"} {
		wantWrong(t, s, 0, api.DByte)
		wantWrong(t, "a "+s+" b", 2, api.DByte)
	}
}

// P2.3: MaxTokens, with the end not counted; a token beyond them is DDeep whatever else is wrong with it.
func TestTooManyTokens(t *testing.T) {
	full := strings.Repeat("; ", api.MaxTokens)
	got, d := lex.All(full)
	if len(got) != api.MaxTokens+1 || d != (api.Diag{}) || got[api.MaxTokens] != token(api.TEnd, 8000, "") {
		t.Fatalf("%d tokens, %v", len(got), d)
	}
	if got, d := lex.All(full + "// more\n"); len(got) != api.MaxTokens+1 || d != (api.Diag{}) {
		t.Errorf("%d tokens, %v", len(got), d)
	}
	for _, more := range []string{";", "a", "1", "==", `"x"`, "int", "@", "/", "&", "00", `"`, `"` + "\n" + `"`, strings.Repeat("1", 16), strings.Repeat("a", 41), "; @", "\xff"} {
		wantWrong(t, full+more, 8000, api.DDeep)
		wantWrong(t, full+"// \n  "+more, 8006, api.DDeep)
	}
	wantWrong(t, strings.Repeat(";", api.MaxTokens-1)+"@;;;", api.MaxTokens-1, api.DByte)
	wantWrong(t, strings.Repeat(";", api.MaxTokens-1)+"00;;;", api.MaxTokens-1, api.DNumber)
	wantWrong(t, strings.Repeat(";", 100000), api.MaxTokens, api.DDeep)
}

// P2.3: bytes that begin no token.
func TestBytes(t *testing.T) {
	for _, s := range []string{"#", "$", "%", "&", "'", "/", ":", ">", "?", "@", "\\", "^", "`", "|", "~", "\x7f", "\x80", "\xff", "\u00e9", "\xe2\x82"} {
		wantWrong(t, s, 0, api.DByte)
		wantWrong(t, "a\n"+s+"b", 2, api.DByte)
		wantWrong(t, "ab"+s+"c", 2, api.DByte)
		wantWrong(t, "12"+s+"3", 2, api.DByte)
		wantWrong(t, `"x"`+s, 3, api.DByte)
	}
}

// P2.3: numbers up to 15 digits, and no 0 before other digits.
func TestNumberForms(t *testing.T) {
	for _, s := range []string{"0", "1", "9", "10", "100", strings.Repeat("9", 15), "1" + strings.Repeat("0", 14)} {
		one(t, api.TNumber, s)
	}
	for _, s := range []string{"00", "01", "07", "000", "0123456789", strings.Repeat("0", 15), strings.Repeat("9", 16), "1" + strings.Repeat("0", 15), strings.Repeat("0", 16), strings.Repeat("1", 10000)} {
		wantWrong(t, s, 0, api.DNumber)
		wantWrong(t, "a= "+s+";", 3, api.DNumber)
		wantWrong(t, "-"+s+"a", 1, api.DNumber)
	}
}

// P2.3: every byte inside a text token, and its end.
func TestTextForms(t *testing.T) {
	for b := range 256 {
		s := `"a` + string([]byte{byte(b)}) + `c"`
		switch {
		case b == '"':
			wantWrong(t, s, 4, api.DText)
		case 32 <= b && b <= 126:
			one(t, api.TText, s)
		default:
			wantWrong(t, s, 0, api.DText)
			wantWrong(t, "x "+s+" @", 2, api.DText)
		}
	}
	one(t, api.TText, `""`)
	one(t, api.TText, `" "`)
	one(t, api.TText, `"\"`)
	for _, s := range []string{`"`, `"a`, `"a b // c`, `"\`, `"` + "\n", `"` + strings.Repeat("a", 10000)} {
		wantWrong(t, s, 0, api.DText)
		wantWrong(t, "f("+s, 2, api.DText)
		wantWrong(t, `""`+s, 2, api.DText)
	}
	wantWrong(t, "\"a\nb\"", 0, api.DText)
	wantWrong(t, "\"a\tb\"", 0, api.DText)
	wantWrong(t, "\"\u00e9\"", 0, api.DText)
}

// P2.3: up to 200 bytes between the quotes.
func TestTextLength(t *testing.T) {
	for _, n := range []int{0, 1, 198, 199, 200} {
		one(t, api.TText, `"`+strings.Repeat("a", n)+`"`)
	}
	for _, n := range []int{201, 202, 300, 100000} {
		wantWrong(t, `"`+strings.Repeat("a", n)+`"`, 0, api.DText)
		wantWrong(t, ` "`+strings.Repeat("a", n)+`";`, 1, api.DText)
	}
}

// P2.3: names up to 40 bytes.
func TestNameLength(t *testing.T) {
	for _, c := range []string{"a", "Z", "_", "a1"} {
		s := strings.Repeat(c, 41)
		one(t, api.TName, s[:39])
		one(t, api.TName, s[:40])
		wantWrong(t, s[:41], 0, api.DLong)
		wantWrong(t, "f."+s[:41]+"()", 2, api.DLong)
		wantWrong(t, strings.Repeat(c, 1000), 0, api.DLong)
	}
}

// P2.3: the first error of several, whatever their codes.
func TestFirstError(t *testing.T) {
	wrong := []struct {
		text string
		code int
	}{{"@", api.DByte}, {"00", api.DNumber}, {"\"\x01\"", api.DText}, {strings.Repeat("b", 41), api.DLong}}
	for _, first := range wrong {
		for _, second := range wrong {
			wantWrong(t, "a "+first.text+" "+second.text+" ", 2, first.code)
			wantWrong(t, "a\n//@\n"+first.text+";"+second.text+";"+strings.Repeat(";", 5000), 6, first.code)
		}
	}
}

// The model's parts: layout and comments, what each first byte determines, and what may be.
var (
	layout = regexp.MustCompile(`^(?:[\t\n\r ]|//[^\n]*)*`)
	part   = regexp.MustCompile(`^(?:([A-Za-z_][A-Za-z_0-9]*)|([0-9]+)|("[^"]*"?)|(==|&&|[(){}\[\],;.=<+\-*!]))`)
	number = regexp.MustCompile(`^(0|[1-9][0-9]{0,14})$`)
	quoted = regexp.MustCompile(`^"[ -~]{0,200}"$`)
)

func modelCode(kind int, s string) int {
	switch kind {
	case 0:
		return api.DByte
	case api.TNumber:
		if !number.MatchString(s) {
			return api.DNumber
		}
	case api.TText:
		if !quoted.MatchString(s) {
			return api.DText
		}
	case api.TName:
		if len(s) > 40 {
			return api.DLong
		}
	}
	return 0
}

func model(text string) ([]api.Token, api.Diag) {
	var tokens []api.Token
	for at := 0; ; {
		at += len(layout.FindString(text[at:]))
		if at == len(text) {
			return append(tokens, token(api.TEnd, at, "")), api.Diag{}
		}
		kind, piece := 0, ""
		if found := part.FindStringSubmatch(text[at:]); found != nil {
			piece = found[0]
			kind = 1 + slices.Index(found[1:], piece)
		}
		if kind == api.TName && slices.Contains(words(), piece) {
			kind = api.TWord
		}
		if len(tokens) == 4000 {
			return nil, api.Diag{At: at, Code: api.DDeep}
		}
		if code := modelCode(kind, piece); code != 0 {
			return nil, api.Diag{At: at, Code: code}
		}
		tokens = append(tokens, token(kind, at, piece))
		at += len(piece)
	}
}

func against(t *testing.T, text string) {
	t.Helper()
	want, wrong := model(text)
	got, d := lex.All(text)
	if d != wrong || !slices.Equal(got, want) {
		t.Fatalf("All(%q): %v, %v; want %v, %v", text, got, d, want, wrong)
	}
}

// P2.2, P2.3: all texts of up to 4 pieces that touch each other.
func TestAllTexts(t *testing.T) {
	pieces := []string{"a", "if", "_", "0", "7", `"`, "=", "&", "/", "\n", " ", "\r", "!", "<", "\\", "\x7f", "\xc3"}
	last := []string{""}
	for range 4 {
		var longer []string
		for _, s := range last {
			for _, p := range pieces {
				against(t, s+p)
				longer = append(longer, s+p)
			}
		}
		last = longer
	}
}

// P2.2, P2.3: long texts of pieces in an order that a fixed rule shuffles.
func TestLongTexts(t *testing.T) {
	pieces := []string{"a", "if ", "struct", "_x1", "0 ", "7", `"a b"`, `""`, "=", "==", "&&", "//c\n", "\n", " ", "\t", "!", "<", "(", ")", "[", "]", "{", "}", ",", ";", ".", "+", "-", "*"}
	state := uint32(1)
	for n := range 300 {
		var text strings.Builder
		for range 1 + n*40 {
			state = state*1664525 + 1013904223
			text.WriteString(pieces[int(state>>16)%len(pieces)])
		}
		against(t, text.String())
		against(t, text.String()+"@")
	}
}

// source has every kind of token.
const source = "package a;import b;func f[P I](x int,y b.T[P])bool{if(!x==12&&\"a // b\"<y){return f(-1)*2+x.y[0]=new{};}}"

// P2.4: what is written between tokens changes only offsets.
func TestBetween(t *testing.T) {
	plain, d := lex.All(source)
	if d != (api.Diag{}) || len(plain) < 50 {
		t.Fatalf("%v, %v", plain, d)
	}
	for _, between := range []string{" ", "\t", "\n", "\r", "\r\n", "  ", " // a\n", "//\n", "// \" 00 @ \xff\n", "\n//a\n//b\n\t"} {
		var text strings.Builder
		var want []api.Token
		text.WriteString(between)
		for _, p := range plain {
			want = append(want, token(p.Kind, text.Len(), p.Text))
			if p.Kind != api.TEnd {
				text.WriteString(p.Text + between)
			}
		}
		wantTokens(t, text.String(), want...)
	}
}

// P2.4: an error stays the same one too.
func TestBetweenErrors(t *testing.T) {
	for _, wrong := range []string{"@", "00", "\"", strings.Repeat("a", 41)} {
		wantWrong(t, "a;"+wrong, 2, modelCodeOf(wrong))
		wantWrong(t, " a // b\n\t; "+wrong, 11, modelCodeOf(wrong))
	}
}

func modelCodeOf(text string) int {
	_, d := model(text)
	return d.Code
}

// R4: what is answered is new, and an earlier answer stays.
func TestNewMemory(t *testing.T) {
	text := strings.Clone(source)
	begin := uintptr(unsafe.Pointer(unsafe.StringData(text)))
	first, _ := lex.All(text)
	for _, f := range first {
		if f.Text == "" {
			continue
		}
		if at := uintptr(unsafe.Pointer(unsafe.StringData(f.Text))); at >= begin && at < begin+uintptr(len(text)) {
			t.Errorf("%q is memory of the text", f.Text)
		}
	}
	want := slices.Clone(first)
	second, _ := lex.All(text)
	for i := range second {
		second[i] = api.Token{Kind: -1}
	}
	second = second[:cap(second)]
	clear(second)
	if third, _ := lex.All(text); !slices.Equal(first, want) || !slices.Equal(third, want) {
		t.Error("an answer is shared")
	}
}

// R1: calls end and never panic: every prefix and every rest of the source, and bytes in all orders.
func TestAnyText(t *testing.T) {
	for i := range len(source) + 1 {
		against(t, source[:i])
		against(t, source[i:])
	}
	state := uint32(7)
	for range 3000 {
		text := make([]byte, state>>28)
		for i := range text {
			state = state*1664525 + 1013904223
			text[i] = byte(state >> 20)
		}
		state = state*1664525 + 1013904223
		against(t, string(text))
	}
	if _, d := lex.All(strings.Repeat(`"`+strconv.Itoa(1)+`" `, 100000)); d.Code != api.DDeep {
		t.Error(d)
	}
}
