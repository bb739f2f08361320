package scan_test

import (
	"fmt"
	"iter"
	"math/big"
	"math/rand"
	"regexp"
	"slices"
	"strings"
	"testing"

	"cadency/api"
	"cadency/scan"
)

func word(at int, text string) api.Tok { return api.Tok{Kind: 1, At: at, Text: text} }

func num(at int, text string, n int64) api.Tok { return api.Tok{Kind: 2, At: at, Text: text, N: n} }

func eq(at int) api.Tok { return api.Tok{Kind: 3, At: at, Text: "="} }

func line(at int) api.Tok { return api.Tok{Kind: 4, At: at, Text: "\n"} }

func toks(l ...api.Tok) []api.Tok { return l }

// The model reads a text by expressions that are made of the chapter's table alone.
var (
	modelLeft  = regexp.MustCompile(`^(?:[ \t]|#[^\n]*)*`)
	modelKinds = []*regexp.Regexp{
		api.TokWord: regexp.MustCompile(`^[A-Za-z_][A-Za-z0-9_.\-]*`),
		api.TokNum:  regexp.MustCompile(`^[0-9]+`),
		api.TokEq:   regexp.MustCompile(`^=`),
		api.TokLine: regexp.MustCompile(`^\n`),
	}
)

// modelNumber is the number of the digits, held at MaxNum.
func modelNumber(digits string) int64 {
	n, _ := new(big.Int).SetString(digits, 10)
	if most := big.NewInt(1 << 40); n.Cmp(most) > 0 {
		n = most
	}
	return n.Int64()
}

func modelTok(s string, at int) (api.Tok, bool) {
	for kind, form := range modelKinds {
		if form == nil {
			continue
		}
		if text := form.FindString(s[at:]); text != "" {
			tok := api.Tok{Kind: kind, At: at, Text: text}
			if kind == api.TokNum {
				tok.N = modelNumber(text)
			}
			return tok, true
		}
	}
	return api.Tok{}, false
}

// model is all tokens up to where none begins, that place (or the length of s), and whether all is well.
func model(s string) ([]api.Tok, int, bool) {
	var l []api.Tok
	at := 0
	for {
		at += len(modelLeft.FindString(s[at:]))
		if at == len(s) {
			return l, at, true
		}
		tok, ok := modelTok(s, at)
		if !ok {
			return l, at, false
		}
		l = append(l, tok)
		at += len(tok.Text)
	}
}

// holds asks all that the chapter promises of a text of which these tokens are told, up to that place.
func holds(t *testing.T, s string, want []api.Tok, place int, well bool) {
	t.Helper()
	if got := slices.Collect(scan.Each(s)); !slices.Equal(got, want) {
		t.Errorf("Each(%q) tells %v, want %v", s, got, want)
	}
	all, e := want, api.OK
	if !well {
		all, e = nil, api.ErrSyntax
	}
	got, at, err := scan.Lex(s)
	if !slices.Equal(got, all) || at != place || err != e {
		t.Errorf("Lex(%q) = %v, %d, %d, want %v, %d, %d", s, got, at, int(err), all, place, int(e))
	}
	isWord := well && len(want) == 1 && want[0].Kind == 1 && want[0].Text == s
	if got := scan.Word(s); got != isWord {
		t.Errorf("Word(%q) = %v", s, got)
	}
}

// read asks that a text is just these tokens.
func read(t *testing.T, s string, want ...api.Tok) {
	t.Helper()
	holds(t, s, want, len(s), true)
}

// stops asks that a text is these tokens, and that behind them, at that place, none begins.
func stops(t *testing.T, s string, place int, want ...api.Tok) {
	t.Helper()
	holds(t, s, want, place, false)
}

// likeModel asks that a text is what the model reads.
func likeModel(t *testing.T, s string) {
	t.Helper()
	want, at, well := model(s)
	holds(t, s, want, at, well)
}

// P3.1, P3.2

func TestConstants(t *testing.T) {
	if api.TokWord != 1 || api.TokNum != 2 || api.TokEq != 3 || api.TokLine != 4 || api.MaxNum != 1<<40 {
		t.Error("the tests write out kinds and MaxNum")
	}
}

func TestChapterExamples(t *testing.T) {
	read(t, "t=10 # x", word(0, "t"), eq(1), num(2, "10", 10))
	stops(t, "a,b", 1, word(0, "a"))
}

func TestNothing(t *testing.T) {
	for _, s := range []string{"", " ", "\t", " \t \t\t  ", "#", "##", "# a=1", "#\t", " # x", "\t#\t#", "#,;\r\x00\xff"} {
		read(t, s)
	}
}

func TestNotes(t *testing.T) {
	read(t, "#\n", line(1))
	read(t, "# a\n", line(3))
	read(t, "# a\n# b\n", line(3), line(7))
	read(t, "# a\n# b", line(3))
	read(t, "# a # b\nc", line(7), word(8, "c"))
	read(t, "a#b\nc", word(0, "a"), line(3), word(4, "c"))
	read(t, "a#b", word(0, "a"))
	read(t, "1#2\n3", num(0, "1", 1), line(3), num(4, "3", 3))
	read(t, "=#=\n=", eq(0), line(3), eq(4))
	read(t, "\n#\n\n", line(0), line(2), line(3))
	read(t, "#,\xff\x00\r\n_", line(5), word(6, "_"))
	stops(t, "#,\n,", 3, line(2))
}

func TestEachKindAtBothEnds(t *testing.T) {
	read(t, "a", word(0, "a"))
	read(t, "1", num(0, "1", 1))
	read(t, "=", eq(0))
	read(t, "\n", line(0))
	read(t, "a = 1", word(0, "a"), eq(2), num(4, "1", 1))
	read(t, "1 = a", num(0, "1", 1), eq(2), word(4, "a"))
	read(t, "= a =", eq(0), word(2, "a"), eq(4))
	read(t, "\n1\n", line(0), num(1, "1", 1), line(2))
	read(t, "ab1-c.d_ 23", word(0, "ab1-c.d_"), num(9, "23", 23))
	read(t, "23 ab1-c.d_", num(0, "23", 23), word(3, "ab1-c.d_"))
}

func TestNothingBetween(t *testing.T) {
	read(t, "1a", num(0, "1", 1), word(1, "a"))
	read(t, "a1", word(0, "a1"))
	read(t, "12_3", num(0, "12", 12), word(2, "_3"))
	read(t, "0x10", num(0, "0", 0), word(1, "x10"))
	read(t, "c=1t=2", word(0, "c"), eq(1), num(2, "1", 1), word(3, "t"), eq(4), num(5, "2", 2))
	read(t, "==", eq(0), eq(1))
	read(t, "\n\n", line(0), line(1))
	read(t, "=\n=", eq(0), line(1), eq(2))
	read(t, "a=b\n1=2\n", word(0, "a"), eq(1), word(2, "b"), line(3), num(4, "1", 1), eq(5), num(6, "2", 2), line(7))
	stops(t, "1.5", 1, num(0, "1", 1))
	stops(t, "1-2", 1, num(0, "1", 1))
	read(t, "a.-.-", word(0, "a.-.-"))
	read(t, "a-1=", word(0, "a-1"), eq(3))
	stops(t, "a-1=-", 4, word(0, "a-1"), eq(3))
}

func TestNumbers(t *testing.T) {
	const most = 1 << 40
	for _, x := range []struct {
		text string
		n    int64
	}{
		{"0", 0}, {"00", 0}, {"7", 7}, {"9", 9}, {"10", 10}, {"0123456789", 123456789}, {"2147483647", 1<<31 - 1}, {"2147483648", 1 << 31}, {"4294967296", 1 << 32},
		{"1099511627775", most - 1}, {"1099511627776", most}, {"1099511627777", most}, {"1099511627780", most}, {"1099511627786", most},
		{"999999999999", 999999999999}, {"1000000000000", 1000000000000}, {"1099511627769", 1099511627769}, {"1100000000000", most}, {"9999999999999", most},
		{"10995116277760", most}, {"109951162777600", most}, {"9223372036854775807", most}, {"9223372036854775808", most}, {"18446744073709551615", most}, {"18446744073709551616", most}, {"18446744073709551623", most}, {"340282366920938463463374607431768211456", most},
	} {
		for _, ahead := range []string{"", "0", "000", strings.Repeat("0", 40)} {
			s := ahead + x.text
			read(t, s, num(0, s, x.n))
			read(t, "a="+s+"\n", word(0, "a"), eq(1), num(2, s, x.n), line(2+len(s)))
		}
	}
}

func TestVeryManyDigits(t *testing.T) {
	const many = 100000
	noughts := strings.Repeat("0", many)
	for _, s := range []string{noughts, noughts + "1", noughts + "1099511627775", noughts + "1099511627777", "1" + noughts, strings.Repeat("9", many), strings.Repeat("1234567890", many/10)} {
		n := modelNumber(s)
		read(t, s, num(0, s, n))
		read(t, s+" "+s, num(0, s, n), num(len(s)+1, s, n))
	}
	for digits := 1; digits < 70; digits++ {
		likeModel(t, strings.Repeat("9", digits))
		likeModel(t, "1"+strings.Repeat("0", digits))
	}
}

func TestNumbersLikeModel(t *testing.T) {
	draw := rand.New(rand.NewSource(3))
	for range 20000 {
		likeModel(t, fmt.Sprint(draw.Int63n(1<<41)>>draw.Intn(41)))
		likeModel(t, fmt.Sprint(1<<40-500+draw.Int63n(1000)))
	}
}

// ends are the bytes at, and beside, the ends of each kind's.
const ends = "\x00\x01\x08\x09\x0a\x0b\x0c\x0d\x1f !\"#$,-./01289:;<=>?@ABYZ[\\]^_`abyz{|}~\x7f\x80\x81\xa0\xbf\xc0\xdf\xe1\xfe\xff"

func TestEachByteAlone(t *testing.T) {
	for c := range 256 {
		s := string([]byte{byte(c)})
		likeModel(t, s)
		switch {
		case s == " ", s == "\t", s == "#":
			read(t, s)
		case c == 10:
			read(t, s, line(0))
		case c == '=':
			read(t, s, eq(0))
		case c >= '0' && c <= '9':
			read(t, s, num(0, s, int64(c-'0')))
		case c >= 'a' && c <= 'z', c >= 'A' && c <= 'Z', c == '_':
			read(t, s, word(0, s))
		default:
			stops(t, s, 0)
		}
	}
}

func TestEachByteBesideOthers(t *testing.T) {
	for c := range 256 {
		s := string([]byte{byte(c)})
		for _, other := range []string{"a", "Z", "_", "a.", "a-", "a9", "7", "=", "\n", " ", "\t", "#", "a=1\n", "\xe4"} {
			likeModel(t, other+s)
			likeModel(t, s+other)
			likeModel(t, other+s+other)
		}
	}
}

func TestAllPairsOfEnds(t *testing.T) {
	for i := range len(ends) {
		for j := range len(ends) {
			likeModel(t, ends[i:i+1]+ends[j:j+1])
			likeModel(t, "a"+ends[i:i+1]+"1"+ends[j:j+1]+"b")
		}
	}
}

func TestAllShortTexts(t *testing.T) {
	const of = "aZ_.-09 \t#=\n,"
	var grow func(s string, left int)
	grow = func(s string, left int) {
		likeModel(t, s)
		if left == 0 {
			return
		}
		for i := range len(of) {
			grow(s+of[i:i+1], left-1)
		}
	}
	grow("", 4)
}

func TestLongTextsLikeModel(t *testing.T) {
	draw := rand.New(rand.NewSource(1))
	const mostly = "abz_AZ.-0123456789  \t\t#==\n\n"
	for range 3000 {
		b := make([]byte, draw.Intn(200))
		for i := range b {
			if b[i] = mostly[draw.Intn(len(mostly))]; draw.Intn(150) == 0 {
				b[i] = byte(draw.Intn(256))
			}
		}
		likeModel(t, string(b))
	}
}

func TestWrongTexts(t *testing.T) {
	stops(t, ",", 0)
	stops(t, " \t,", 2)
	stops(t, "-1", 0)
	stops(t, ".a", 0)
	stops(t, "-a", 0)
	stops(t, "a\r\n", 1, word(0, "a"))
	stops(t, "a = 1 \r\n", 6, word(0, "a"), eq(2), num(4, "1", 1))
	stops(t, "a=1\n\nb=;c", 7, word(0, "a"), eq(1), num(2, "1", 1), line(3), line(4), word(5, "b"), eq(6))
	stops(t, "a ,b ;c", 2, word(0, "a"))
	stops(t, "a\x00b", 1, word(0, "a"))
	stops(t, "a\u00e4", 1, word(0, "a"))
	stops(t, "\u00e4a", 0)
	stops(t, "\ufeffa", 0)
	stops(t, "a\u00a0b", 1, word(0, "a"))
	stops(t, "\u0661", 0)
	stops(t, "\u2028", 0)
	stops(t, "\xff", 0)
	stops(t, "a b c \v", 6, word(0, "a"), word(2, "b"), word(4, "c"))
	stops(t, "x\n# a,b\n , # c", 9, word(0, "x"), line(1), line(7))
}

func TestPlaceIsThatOfTheByteBehindWhatIsLeftOut(t *testing.T) {
	for _, left := range []string{"", " ", "\t", " \t ", "   "} {
		stops(t, left+"!", len(left))
		stops(t, "a"+left+"!", 1+len(left), word(0, "a"))
		stops(t, "9"+left+"!!", 1+len(left), num(0, "9", 9))
		stops(t, "="+left+"! a", 1+len(left), eq(0))
		stops(t, "\n"+left+"!", 1+len(left), line(0))
	}
}

// P3.1

func TestEachLeftOff(t *testing.T) {
	s := "a=1 # x\nbc = 022\n_ ,"
	want, _, _ := model(s)
	if len(want) != 9 {
		t.Fatalf("the model tells %v", want)
	}
	seq := scan.Each(s)
	for n := 1; n <= len(want); n++ {
		var got []api.Tok
		for tok := range seq {
			if got = append(got, tok); len(got) == n {
				break
			}
		}
		if !slices.Equal(got, want[:n]) {
			t.Errorf("the first %d are %v, want %v", n, got, want[:n])
		}
	}
	if got := slices.Collect(seq); !slices.Equal(got, want) {
		t.Errorf("told again: %v, want %v", got, want)
	}
}

func TestEachAsksNoMoreOnceLeftOff(t *testing.T) {
	for _, s := range []string{"a", "1 2 3", "=", "\n\n\n", "a,", "a b ,", "a # x\n"} {
		calls := 0
		scan.Each(s)(func(api.Tok) bool {
			calls++
			return false
		})
		if calls != 1 {
			t.Errorf("Each(%q) goes on %d times", s, calls)
		}
	}
}

func TestEachNested(t *testing.T) {
	s := "a=1\nb=2,"
	want, _, _ := model(s)
	seq := scan.Each(s)
	i := 0
	for tok := range seq {
		if tok != want[i] {
			t.Errorf("the outer one tells %v, want %v", tok, want[i])
		}
		if got := slices.Collect(seq); !slices.Equal(got, want) {
			t.Errorf("the inner one tells %v, want %v", got, want)
		}
		i++
	}
	if i != len(want) {
		t.Errorf("%d are told, want %d", i, len(want))
	}
}

func TestEachPulled(t *testing.T) {
	s := "a b c"
	seq := scan.Each(s)
	one, stopOne := iter.Pull(seq)
	other, stopOther := iter.Pull(seq)
	defer stopOne()
	defer stopOther()
	for _, want := range toks(word(0, "a"), word(2, "b"), word(4, "c")) {
		x, ok := one()
		y, well := other()
		if x != want || y != want || !ok || !well {
			t.Errorf("side by side: %v and %v, want %v", x, y, want)
		}
	}
}

func TestEachIsNeverNil(t *testing.T) {
	for _, s := range []string{"", " ", "#", ",", "a"} {
		if scan.Each(s) == nil {
			t.Errorf("Each(%q) is nil", s)
		}
	}
}

// P3.2

func TestLexIsNew(t *testing.T) {
	s := "a=1"
	first, _, _ := scan.Lex(s)
	for i := range first {
		first[i] = api.Tok{Kind: 9}
	}
	read(t, s, word(0, "a"), eq(1), num(2, "1", 1))
}

func TestLexOfMany(t *testing.T) {
	const many = 50000
	s := strings.Repeat("task a c=1 # x\n", many)
	l, at, e := scan.Lex(s)
	if len(l) != 6*many || at != len(s) || e != api.OK {
		t.Fatalf("%d tokens, %d, %d", len(l), at, int(e))
	}
	if last := l[len(l)-1]; last != line(len(s)-1) {
		t.Errorf("the last is %v", last)
	}
	if l, at, e := scan.Lex(s + "!"); len(l) != 0 || at != len(s) || e != api.ErrSyntax {
		t.Errorf("with a fault at the end: %d tokens, %d, %d", len(l), at, int(e))
	}
}

func TestLongNotesAndBlanks(t *testing.T) {
	const many = 200000
	read(t, strings.Repeat(" ", many))
	read(t, strings.Repeat("#", many))
	read(t, "#"+strings.Repeat("x", many)+"\na", line(many+1), word(many+2, "a"))
	read(t, strings.Repeat("\t", many)+"a", word(many, "a"))
	long := strings.Repeat("a-", many)
	read(t, long, word(0, long))
}

func TestWord(t *testing.T) {
	for _, s := range []string{"a", "z", "A", "Z", "_", "__", "a.b", "a-b", "a-", "a.", "a9", "_0", "_.-", "task", "Az09_.-", strings.Repeat("a", 33), strings.Repeat("_", 5000)} {
		if !scan.Word(s) {
			t.Errorf("Word(%q) is false", s)
		}
	}
	for _, s := range []string{
		"", " ", "a ", " a", "\ta", "a\t", "a\n", "\na", "a#", "a# b", "#a", "#", "a b", "a=", "=a", "=", "1", "1a", "12", "-a", ".a", "-", ".", "\n", "a,", ",a", "a\x00", "\x00", "a\r",
		"a\u00e4", "\u00e4", "a\xff", "a@", "a[", "a`", "a{", "a/", "a:", "a b\n", "a,b", "@", "[", "`", "{",
	} {
		if scan.Word(s) {
			t.Errorf("Word(%q) is true", s)
		}
	}
}

// P3.3

// joined is the row of texts with what is left out ahead of each, and at the end, and the places where they begin.
func joined(texts []string, left func(i int) string) (string, []int) {
	s := ""
	var places []int
	for i, text := range texts {
		s += left(i)
		places = append(places, len(s))
		s += text
	}
	return s + left(len(texts)), places
}

func wordOrNumber(text string) bool { return text != "=" && text != "\n" }

// parts asks that a text is told as just these tokens, at these places.
func parts(t *testing.T, s string, texts []string, places []int) {
	t.Helper()
	l, at, e := scan.Lex(s)
	if e != api.OK || at != len(s) || len(l) != len(texts) {
		t.Errorf("Lex(%q) = %v, %d, %d, want the tokens %q", s, l, at, int(e), texts)
		return
	}
	for i, tok := range l {
		if want, _ := modelTok(texts[i], 0); tok.Kind != want.Kind || tok.N != want.N || tok.Text != texts[i] || tok.At != places[i] {
			t.Errorf("of %q token %d is %v, want %q at %d", s, i, tok, texts[i], places[i])
		}
	}
}

func TestWhatIsLeftOutMayStandAnywhere(t *testing.T) {
	draw := rand.New(rand.NewSource(2))
	of := []string{"a", "task", "_", "a.b-c", "Z9", "0", "7", "007", "1099511627777", "=", "=", "\n", "\n"}
	blanks := []string{" ", "\t", "  ", " \t ", "\t\t"}
	notes := []string{"#", "# x", " # a=1 # b", "\t#,\xff"}
	for range 5000 {
		texts := make([]string, draw.Intn(9))
		for i := range texts {
			texts[i] = of[draw.Intn(len(of))]
		}
		s, places := joined(texts, func(i int) string {
			ends := i == len(texts)
			must := i > 0 && !ends && wordOrNumber(texts[i-1]) && wordOrNumber(texts[i])
			switch n := draw.Intn(3); {
			case n == 0 && (ends || texts[i] == "\n"): // a note takes with it all but a line feed
				return notes[draw.Intn(len(notes))]
			case n == 1 || must:
				return blanks[draw.Intn(len(blanks))]
			}
			return ""
		})
		parts(t, s, texts, places)
	}
}

func TestNothingNeedStandBesideOthers(t *testing.T) {
	for _, texts := range [][]string{{"a", "=", "1", "\n"}, {"=", "a", "=", "a"}, {"\n", "1", "\n", "a"}, {"=", "=", "\n", "\n", "="}, {"1", "=", "\n", "a"}} {
		for _, left := range []string{"", " ", "\t", " \t"} {
			s, places := joined(texts, func(int) string { return left })
			parts(t, s, texts, places)
		}
	}
}

func TestWordsAndNumbersRunTogether(t *testing.T) {
	read(t, "a b", word(0, "a"), word(2, "b"))
	read(t, "ab", word(0, "ab"))
	read(t, "1\t2", num(0, "1", 1), num(2, "2", 2))
	read(t, "12", num(0, "12", 12))
	read(t, "a 2", word(0, "a"), num(2, "2", 2))
	read(t, "a2", word(0, "a2"))
	read(t, "2 a", num(0, "2", 2), word(2, "a"))
}

func Example() {
	for tok := range scan.Each("t=10 # x") {
		fmt.Println(tok.Kind, tok.At, tok.Text, tok.N)
	}
	_, at, e := scan.Lex("a,b")
	fmt.Println(at, e, scan.Word("a.b"))
	// Output:
	// 1 0 t 0
	// 3 1 = 0
	// 2 2 10 10
	// 1 cadency: error 10 true
}
