package text_test

import (
	"fmt"
	"math"
	"math/rand"
	"slices"
	"strings"
	"testing"

	"cadency/api"
	"cadency/scan"
	"cadency/task"
	"cadency/text"
)

const (
	most    = 1<<31 - 1 // of C, T, D, J and Q
	prios   = 1 << 20   // of P
	numbers = 1 << 40   // of what a token tells
)

// rows is a row of tasks.
func rows(l ...api.Task) []api.Task { return l }

// many are n tasks that may be, with names and P of their own.
func many(n int) []api.Task {
	l := make([]api.Task, n)
	for i := range l {
		l[i] = api.Task{Name: fmt.Sprint("t", i), C: 5, T: 100, D: 50, J: 7, Q: 3, P: i + 1}
	}
	return l
}

// shown is no more of a text than is of use.
func shown(s string) string {
	if len(s) <= 300 {
		return fmt.Sprintf("%q", s)
	}
	return fmt.Sprintf("%q .. %q (%d bytes)", s[:100], s[len(s)-100:], len(s))
}

// told is no more of what a call told than is of use.
func told(l []api.Task, at int, e api.Errno) string {
	return fmt.Sprintf("%d tasks %+v, %d, %d", len(l), l[:min(len(l), 5)], at, int(e))
}

// wantRead asks that Read tells just this.
func wantRead(t *testing.T, s string, l []api.Task, at int, e api.Errno) {
	t.Helper()
	if got, gotAt, gotE := text.Read(s); !slices.Equal(got, l) || gotAt != at || gotE != e {
		t.Errorf("Read of %s: %s, want %s", shown(s), told(got, gotAt, gotE), told(l, at, e))
	}
}

// wantParse asks that Parse tells just this.
func wantParse(t *testing.T, s string, l []api.Task, at int, e api.Errno) {
	t.Helper()
	if got, gotAt, gotE := text.Parse(s); !slices.Equal(got, l) || gotAt != at || gotE != e {
		t.Errorf("Parse of %s: %s, want %s", shown(s), told(got, gotAt, gotE), told(l, at, e))
	}
}

// reads asks that a text is read as just these tasks, and that Parse tells them, or what task.CheckAll tells of them.
func reads(t *testing.T, s string, l ...api.Task) {
	t.Helper()
	wantRead(t, s, l, len(s), api.OK)
	n, e := task.CheckAll(l)
	if e != api.OK {
		l = nil
	}
	wantParse(t, s, l, n, e)
}

// stops asks that a text is no set's, from that place on.
func stops(t *testing.T, s string, at int) {
	t.Helper()
	wantRead(t, s, nil, at, api.ErrSyntax)
	wantParse(t, s, nil, at, api.ErrSyntax)
}

// stopsAt asks that a text is no set's, from where `^` stands in it on; that is left out ahead.
func stopsAt(t *testing.T, s string) {
	t.Helper()
	at := strings.IndexByte(s, '^')
	if at < 0 {
		t.Fatalf("%q has no ^", s)
	}
	stops(t, s[:at]+s[at+1:], at)
}

// The model looks at each token by its place within its line, as the chapter's words say what stands there.

// modelStands asks: can a token stand at place i of its line, whose first ones are these?
func modelStands(line []api.Tok, i int) bool {
	tok := line[i]
	there := map[string]int{}
	for k := 2; k < i; k += 3 {
		there[line[k].Text]++
	}
	switch {
	case tok.Kind == api.TokLine && i == 0:
		return true
	case tok.Kind == api.TokLine:
		return i > 4 && i%3 == 2 && there["c"] == 1 && there["t"] == 1 && there["p"] == 1
	case i == 0:
		return tok.Kind == api.TokWord && tok.Text == "task"
	case i == 1:
		return tok.Kind == api.TokWord
	case i%3 == 2:
		return tok.Kind == api.TokWord && slices.Contains([]string{"c", "t", "d", "j", "q", "p"}, tok.Text) && there[tok.Text] == 0
	case i%3 == 0:
		return tok.Kind == api.TokEq
	}
	return tok.Kind == api.TokNum
}

// modelTask is that of a line's tokens, which can all stand there.
func modelTask(line []api.Tok) api.Task {
	numbers := map[string]int64{}
	for k := 2; k+2 < len(line); k += 3 {
		numbers[line[k].Text] = line[k+2].N
	}
	or := func(word string, n int64) int64 {
		if is, ok := numbers[word]; ok {
			return is
		}
		return n
	}
	return api.Task{Name: line[1].Text, C: numbers["c"], T: numbers["t"], D: or("d", numbers["t"]), J: or("j", 0), Q: or("q", 1), P: int(numbers["p"])}
}

func model(s string) ([]api.Task, int, api.Errno) {
	toks, at, e := scan.Lex(s)
	if e != api.OK {
		return nil, at, e
	}
	var l []api.Task
	var line []api.Tok
	for _, tok := range append(toks, api.Tok{Kind: api.TokLine, At: len(s)}) {
		line = append(line, tok)
		if !modelStands(line, len(line)-1) {
			return nil, tok.At, api.ErrSyntax
		}
		if tok.Kind == api.TokLine {
			if len(line) > 1 {
				l = append(l, modelTask(line))
			}
			line = nil
		}
	}
	return l, len(s), api.OK
}

// likeModel asks that a text is what the model reads, and tells whether it is a set's.
func likeModel(t *testing.T, s string) bool {
	t.Helper()
	l, at, e := model(s)
	if e != api.OK {
		stops(t, s, at)
		return false
	}
	reads(t, s, l...)
	return true
}

// P5.1

func TestChapterExamples(t *testing.T) {
	reads(t, "task a p=2 c=1 t=9", api.Task{Name: "a", C: 1, T: 9, D: 9, J: 0, Q: 1, P: 2})
	stops(t, "task a c=1 c=2", 11)
}

func TestTextsOfNothing(t *testing.T) {
	for _, s := range []string{"", "\n", "\n\n\n", " ", "\t", " \t \n\t\n ", "#", "# task", "# task a c=1 t=4 p=1", "# a\n# b", "# a\n# b\n", "\n#,\n\n \t# \xff\r\n\t"} {
		wantRead(t, s, nil, len(s), api.OK)
		wantParse(t, s, nil, 0, api.ErrMany)
	}
}

func TestLines(t *testing.T) {
	a := api.Task{Name: "a", C: 1, T: 4, D: 4, Q: 1, P: 1}
	b := api.Task{Name: "b", C: 2, T: 9, D: 8, J: 3, Q: 2, P: 2}
	c := api.Task{Name: "c", C: 3, T: 20, D: 20, Q: 3, P: 3}
	const lineA, lineB, lineC = "task a c=1 t=4 p=1", "task b c=2 t=9 d=8 j=3 q=2 p=2", "task c c=3 t=20 q=3 p=3"
	reads(t, lineA, a)
	reads(t, lineA+"\n", a)
	reads(t, lineA+"\n\n", a)
	reads(t, "\n"+lineA, a)
	reads(t, lineA+" ", a)
	reads(t, lineA+" # x", a)
	reads(t, lineA+" # x\n", a)
	reads(t, lineA+"#"+lineB, a)
	reads(t, lineA+"\n"+lineB, a, b)
	reads(t, lineA+"\n"+lineB+"\n", a, b)
	reads(t, lineB+"\n"+lineA+"\n", b, a)
	reads(t, lineC+"\n"+lineA+"\n"+lineB, c, a, b)
	reads(t, "# three\n\n"+lineA+" # the first\n \n\t# more\n"+lineB+"\n\n\n"+lineC+"\n# end", a, b, c)
	reads(t, "#"+lineA+"\n"+lineB, b)
	reads(t, " \ttask\ta  c = 1\tt= 4 p =1 ", a)
	reads(t, "task a c=1t=4p=1", a)
	reads(t, "task a c=001 t=0004 p=01", a)
	stopsAt(t, lineA+" ^"+lineB)
	stopsAt(t, "task a c=1 t=4^\np=1")
	stopsAt(t, "task^\na c=1 t=4 p=1")
	stopsAt(t, "task a c=1 t=4 p=1\n^c=1")
	stopsAt(t, "task a c=1 t=4 p=1 # x\n^task1 b c=1 t=4 p=2")
}

// fieldWords are those of all fields, and what each is given.
var fieldWords = []string{"c", "t", "d", "j", "q", "p"}

var fieldNumbers = map[string]int64{"c": 5, "t": 100, "d": 50, "j": 7, "q": 3, "p": 9}

// lineOf is a line of the task a, of those fields, in that order.
func lineOf(words ...string) string {
	s := "task a"
	for _, word := range words {
		s += fmt.Sprintf(" %s=%d", word, fieldNumbers[word])
	}
	return s
}

// orders are all those of the words.
func orders(words []string) [][]string {
	if len(words) == 0 {
		return [][]string{nil}
	}
	var l [][]string
	for i, word := range words {
		for _, rest := range orders(slices.Delete(slices.Clone(words), i, i+1)) {
			l = append(l, append([]string{word}, rest...))
		}
	}
	return l
}

// All fields, and some, and in each order of them: a task, if c, t and p are there, else the line's end is told.
func TestFieldsInAnyOrder(t *testing.T) {
	good := 0
	for some := range 1 << len(fieldWords) {
		var words []string
		want := api.Task{Name: "a", C: 5, T: 100, D: 100, J: 0, Q: 1, P: 9}
		for i, word := range fieldWords {
			if some>>i&1 == 0 {
				continue
			}
			words = append(words, word)
			switch word {
			case "d":
				want.D = 50
			case "j":
				want.J = 7
			case "q":
				want.Q = 3
			}
		}
		for _, order := range orders(words) {
			s := lineOf(order...)
			if slices.Contains(words, "c") && slices.Contains(words, "t") && slices.Contains(words, "p") {
				good++
				reads(t, s, want)
				reads(t, s+"\n", want)
				continue
			}
			stops(t, s, len(s))
			stops(t, s+" # x", len(s)+4)
			stops(t, s+"\n", len(s))
			stops(t, s+" \n\n"+lineOf("c", "t", "p"), len(s)+1)
			stops(t, lineOf("c", "t", "p")+"\n"+s, len(s)+len(lineOf("c", "t", "p"))+1)
		}
	}
	if good != 6+3*24+3*120+720 {
		t.Errorf("%d lines were a task's", good)
	}
}

func TestFieldsLeftOut(t *testing.T) {
	reads(t, "task a c=5 t=100 p=9", api.Task{Name: "a", C: 5, T: 100, D: 100, J: 0, Q: 1, P: 9})
	reads(t, "task a c=5 t=100 j=7 q=3 p=9", api.Task{Name: "a", C: 5, T: 100, D: 100, J: 7, Q: 3, P: 9})
	reads(t, "task a j=7 q=3 t=100 c=5 p=9", api.Task{Name: "a", C: 5, T: 100, D: 100, J: 7, Q: 3, P: 9})
	reads(t, "task a c=5 t=100 d=50 q=3 p=9", api.Task{Name: "a", C: 5, T: 100, D: 50, J: 0, Q: 3, P: 9})
	reads(t, "task a c=5 t=100 d=50 j=7 p=9", api.Task{Name: "a", C: 5, T: 100, D: 50, J: 7, Q: 1, P: 9})
	// What was there of one line is nothing to the next.
	reads(t, lineOf(fieldWords...)+"\ntask b c=2 t=8 p=1\n", api.Task{Name: "a", C: 5, T: 100, D: 50, J: 7, Q: 3, P: 9}, api.Task{Name: "b", C: 2, T: 8, D: 8, J: 0, Q: 1, P: 1})
	stopsAt(t, lineOf(fieldWords...)+"\ntask b^")
	stopsAt(t, lineOf(fieldWords...)+"\ntask b c=2 t=8^\n"+lineOf(fieldWords...))
}

// A field that is there, with 0, is not left out.
func TestFieldsOfNought(t *testing.T) {
	reads(t, "task a c=5 t=100 d=0 p=9", api.Task{Name: "a", C: 5, T: 100, D: 0, J: 0, Q: 1, P: 9})
	reads(t, "task a c=5 t=100 q=0 p=9", api.Task{Name: "a", C: 5, T: 100, D: 100, J: 0, Q: 0, P: 9})
	reads(t, "task a c=5 t=100 j=0 p=9", api.Task{Name: "a", C: 5, T: 100, D: 100, J: 0, Q: 1, P: 9})
	reads(t, "task a c=0 t=0 p=0", api.Task{Name: "a", Q: 1})
	reads(t, "task a c=0 t=0 d=0 j=0 q=0 p=0", api.Task{Name: "a"})
	reads(t, "task a t=0 d=7 c=0 p=0", api.Task{Name: "a", D: 7, Q: 1})
	for _, word := range fieldWords { // and was there, if it is there again
		stopsAt(t, "task a "+word+"=0 ^"+word+"=0")
		stopsAt(t, "task a "+word+"=0 ^"+word+"=5 c=0 t=0 p=0")
	}
}

func TestGreatNumbers(t *testing.T) {
	for _, x := range []struct {
		digits string
		n      int64
	}{
		{"2147483647", most}, {"2147483648", most + 1}, {"4294967296", 1 << 32}, {"4294967297", 1<<32 + 1}, {"1099511627775", numbers - 1},
		{"1099511627776", numbers}, {"1099511627777", numbers}, {"9223372036854775808", numbers}, {"18446744073709551617", numbers}, {strings.Repeat("9", 500), numbers},
	} {
		n := x.n
		reads(t, strings.ReplaceAll("task a c=N t=N d=N j=N q=N p=N", "N", x.digits), api.Task{Name: "a", C: n, T: n, D: n, J: n, Q: n, P: int(n)})
		reads(t, "task a c=1 t="+x.digits+" p=1", api.Task{Name: "a", C: 1, T: n, D: n, Q: 1, P: 1})
		reads(t, "task a c=1 t=1 p="+x.digits, api.Task{Name: "a", C: 1, T: 1, D: 1, Q: 1, P: int(n)})
	}
}

func TestFieldsTwice(t *testing.T) {
	for _, word := range fieldWords {
		s := lineOf(fieldWords...)
		stopsAt(t, s+" ^"+word+"=1")
		stopsAt(t, s+" ^"+word)
		stopsAt(t, s+" ^"+word+" x")
		stopsAt(t, s+" ^"+word+"\n")
		stopsAt(t, fmt.Sprintf("task a %s=1 ^%s=1", word, word))
		stopsAt(t, fmt.Sprintf("task a %s=1 ^%s=2 c=1 t=4 p=1", word, word))
		for _, other := range fieldWords {
			if other != word {
				stopsAt(t, fmt.Sprintf("task a %s=1 %s=1 ^%s=1 %s=1\n", word, other, word, other))
				stopsAt(t, fmt.Sprintf("task a %s=1 %s=1 ^%s=1 %s=1\n", word, other, other, word))
			}
		}
	}
}

func TestNames(t *testing.T) {
	for _, name := range []string{"a", "task", "c", "t", "d", "j", "q", "p", "order", "bound", "_", "a.b-c", "a-1", "Task", "z9", strings.Repeat("a", 32), strings.Repeat("a", 33), strings.Repeat("b", 5000)} {
		reads(t, "task "+name+" c=1 t=4 p=1", api.Task{Name: name, C: 1, T: 4, D: 4, Q: 1, P: 1})
	}
	// A name is a word of its own: what stands behind it is still to come.
	reads(t, "task c c=1 t=4 p=1\ntask task t=9 c=2 p=2", api.Task{Name: "c", C: 1, T: 4, D: 4, Q: 1, P: 1}, api.Task{Name: "task", C: 2, T: 9, D: 9, Q: 1, P: 2})
	stopsAt(t, "task c^=1 t=4 p=1")
	stopsAt(t, "task task ^task c=1 t=4 p=1")
	stopsAt(t, "task c t=4 p=1^")
	// The same name again is no fault of the text.
	wantRead(t, "task a c=1 t=4 p=1\ntask a c=1 t=4 p=1", rows(api.Task{Name: "a", C: 1, T: 4, D: 4, Q: 1, P: 1}, api.Task{Name: "a", C: 1, T: 4, D: 4, Q: 1, P: 1}), 37, api.OK)
}

func TestNoWordTaskAtTheBeginning(t *testing.T) {
	for _, ahead := range []string{"", "\n", "# x\n\n", " \t", lineOf(fieldWords...) + "\n", "task b c=1 t=4 p=1 # task\n\t"} {
		for _, first := range []string{"tasks", "Task", "TASK", "tas", "task1", "task.", "task-", "_", "a", "c", "order", "bound", "1", "0", "=", "=="} {
			stopsAt(t, ahead+"^"+first)
			stopsAt(t, ahead+"^"+first+" a c=1 t=4 p=1")
			stopsAt(t, ahead+"^"+first+" task a c=1 t=4 p=1\n")
			stopsAt(t, ahead+"^"+first+"\ntask a c=1 t=4 p=1\n")
		}
	}
	stopsAt(t, "^1task a c=1 t=4 p=1")
}

func TestNoName(t *testing.T) {
	for _, ahead := range []string{"", "\n\n", lineOf(fieldWords...) + "\n"} {
		stopsAt(t, ahead+"task^")
		stopsAt(t, ahead+"task ^")
		stopsAt(t, ahead+"task # a^")
		stopsAt(t, ahead+"task^\n")
		stopsAt(t, ahead+"task # a^\n")
		stopsAt(t, ahead+"task \t^\n"+lineOf(fieldWords...))
		stopsAt(t, ahead+"task ^1 c=1 t=4 p=1")
		stopsAt(t, ahead+"task ^1a c=1 t=4 p=1")
		stopsAt(t, ahead+"task ^=")
		stopsAt(t, ahead+"task^=a c=1 t=4 p=1")
	}
}

func TestNoField(t *testing.T) {
	for _, ahead := range []string{"task a", "task a c=1", "task a c=1 t=4 p=1", lineOf(fieldWords...), lineOf(fieldWords...) + "\ntask b"} {
		for _, other := range []string{"x", "C", "T", "D", "J", "Q", "P", "cc", "c1", "c.", "c-1", "_c", "task", "order", "bound", "a", "name", "1", "0", "99", "=", "=1"} {
			stopsAt(t, ahead+" ^"+other)
			stopsAt(t, ahead+" ^"+other+"\n")
			stopsAt(t, ahead+" ^"+other+"=1")
			stopsAt(t, ahead+" ^"+other+"=1 c=1 t=4 d=4 j=0 q=1 p=1\n")
			stopsAt(t, ahead+" ^"+other+"\ntask z")
		}
	}
}

func TestNoEqualsSign(t *testing.T) {
	for _, word := range fieldWords {
		for _, ahead := range []string{"task a ", "task " + word + " ", "task b c=1 t=4 p=1\ntask a "} {
			stopsAt(t, ahead+word+" ^1")
			stopsAt(t, ahead+word+" ^1 =")
			stopsAt(t, ahead+word+" ^"+word+"=1")
			stopsAt(t, ahead+word+" ^x")
			stopsAt(t, ahead+word+"^")
			stopsAt(t, ahead+word+" # =1^")
			stopsAt(t, ahead+word+"^\n")
			stopsAt(t, ahead+word+"^\n=1 c=1 t=4 p=1")
			stopsAt(t, ahead+word+"=^=1")
			stopsAt(t, ahead+word+"= ^= 1")
			stopsAt(t, ahead+word+"=^=")
			stopsAt(t, ahead+word+"=1 ^=2")
		}
	}
	stopsAt(t, "task a c=1 t=4 p ^1")
	stopsAt(t, "task a c=1 t=4 p^")
}

func TestNoNumber(t *testing.T) {
	for _, word := range fieldWords {
		for _, ahead := range []string{"task a ", "task " + word + " ", "task b c=1 t=4 p=1\ntask a "} {
			stopsAt(t, ahead+word+"=^x")
			stopsAt(t, ahead+word+"=^"+word+"=1")
			stopsAt(t, ahead+word+"= ^_1")
			stopsAt(t, ahead+word+"=^task")
			stopsAt(t, ahead+word+"=^")
			stopsAt(t, ahead+word+"= ^")
			stopsAt(t, ahead+word+"=#1^")
			stopsAt(t, ahead+word+"=^\n")
			stopsAt(t, ahead+word+"=^\n1 c=1 t=4 p=1")
			stopsAt(t, ahead+word+"=1^=")
		}
	}
	stopsAt(t, "task a c=1 t=4 p=^")
	stopsAt(t, "task a c=1 t=4 p=1 d=^\n")
	stopsAt(t, "task a c=1 ^2 t=4 p=1")
	stopsAt(t, "task a c=1 t=4 p=1 ^2")
}

func TestSeveralFaultsInALineOrMore(t *testing.T) {
	stopsAt(t, "^tasks 1 x==\ntask")
	stopsAt(t, "task ^1 x==\ntask")
	stopsAt(t, "task a ^x==\ntask")
	stopsAt(t, "task a c=^=\ntask")
	stopsAt(t, "task a c=1^\ntask")
	stopsAt(t, "task a c=1 ^c 2 x=1\n1")
	stopsAt(t, "task a c=1 t=4 p=1\ntask ^2 x=1\n1")
	stopsAt(t, "task a c=1 t=4 p=1 ^p=2 x=1\n1")
	stopsAt(t, "task a c=1^\ntasks b c=1 t=4 p=1")
	stopsAt(t, "task a c=0 t=0 p=0\ntask a^")
	stopsAt(t, "task a c=0 t=0 p=0\ntask a c=0 t=0 p=0 ^x")
}

// What scan.Lex does not take comes first, wherever it stands.
func TestTextsThatAreNoTokens(t *testing.T) {
	stopsAt(t, "^,")
	stopsAt(t, "^-1")
	stopsAt(t, "task a c=^-1 t=4 p=1")
	stopsAt(t, "task a c=1 t=4 p=1^;")
	stopsAt(t, "task a c=1 t=4 p=1^\r\n")
	stopsAt(t, "task a c=1^,5 t=4 p=1")
	stopsAt(t, "task a c=1^.5 t=4 p=1")
	stopsAt(t, "task a^\xff c=1 t=4 p=1")
	for _, wrong := range []string{"tasks", "1", "task", "task 1", "task a x", "task a c=1 c=1", "task a c 1", "task a c=x", "task a c=1", "task a c=", "task a c=1 t=4 p=1 ="} {
		stopsAt(t, wrong+" ^;")
		stopsAt(t, wrong+"\n^;")
		stopsAt(t, wrong+"\n\n"+lineOf(fieldWords...)+"\n^- 1\n;")
		stopsAt(t, lineOf(fieldWords...)+"\n"+wrong+" # x\n^\x00\n;")
		stopsAt(t, "^; "+wrong)
	}
	// A note has no tokens, so none that can't be one.
	reads(t, "task a c=1 t=4 p=1 #;", api.Task{Name: "a", C: 1, T: 4, D: 4, Q: 1, P: 1})
}

// vocabulary is tokens of all kinds, of all that is said of words.
var vocabulary = []string{"task", "c", "t", "d", "j", "q", "p", "a", "x", "1", "0", "=", "\n", "\n\n", "# x\n", ";"}

func joined(texts []string) string { return strings.Join(texts, " ") }

// Each text that differs from one of a set in one token, or two beside each other, is as the model says.
func TestChangedTextsLikeModel(t *testing.T) {
	good, bad := 0, 0
	look := func(texts []string) {
		if likeModel(t, joined(texts)) {
			good++
		} else {
			bad++
		}
	}
	for _, s := range []string{
		"task a c = 1 t = 4 p = 1",
		"task a c = 1 t = 4 p = 1 \n task b p = 2 j = 3 q = 2 t = 9 c = 2 d = 8 \n",
		"\n task c p = 0 t = 0 c = 0 \n \n task task d = 7 c = 1 q = 0 p = 3 t = 5",
	} {
		texts := strings.Split(s, " ")
		look(texts)
		for i := range len(texts) + 1 {
			look(texts[:i])
			for _, word := range vocabulary {
				look(slices.Insert(slices.Clone(texts), i, word))
				if i == len(texts) {
					continue
				}
				look(slices.Replace(slices.Clone(texts), i, i+1, word))
				for _, other := range vocabulary {
					look(slices.Replace(slices.Clone(texts), i, i+1, word, other))
					look(slices.Replace(slices.Clone(texts), i, min(i+2, len(texts)), word, other))
				}
			}
			if i < len(texts) {
				look(slices.Delete(slices.Clone(texts), i, i+1))
			}
			for k := range i {
				if i < len(texts) {
					swapped := slices.Clone(texts)
					swapped[i], swapped[k] = swapped[k], swapped[i]
					look(swapped)
				}
			}
		}
	}
	if good < 300 || bad < 10000 {
		t.Errorf("%d texts were a set's, %d none", good, bad)
	}
}

func TestAllShortTextsLikeModel(t *testing.T) {
	of := []string{"task", "c", "x", "1", "=", "\n"}
	var grow func(texts []string, left int)
	grow = func(texts []string, left int) {
		likeModel(t, joined(texts))
		if left == 0 {
			return
		}
		for _, s := range of {
			grow(append(slices.Clone(texts), s), left-1)
		}
	}
	grow(nil, 5)
	grow([]string{"task", "a", "c", "=", "1", "p", "=", "1", "t"}, 4)
}

// drawnLine is one of a task, and now and then one that is none.
func drawnLine(draw *rand.Rand) string {
	words := slices.Clone(fieldWords)
	draw.Shuffle(len(words), func(i, k int) { words[i], words[k] = words[k], words[i] })
	s := "task " + []string{"a", "b", "c", "task", "a.b", "_"}[draw.Intn(6)]
	for _, word := range words {
		if draw.Intn(8) > 0 || strings.Contains("ctp", word) && draw.Intn(12) > 0 {
			s += []string{" ", "  ", "\t"}[draw.Intn(3)] + word + []string{"=", " = ", "= ", "="}[draw.Intn(4)] + fmt.Sprint(draw.Intn(12))
		}
	}
	if draw.Intn(4) == 0 {
		s += []string{" ", " # note", " x", " c=1"}[draw.Intn(4)]
	}
	return s
}

func TestDrawnTextsLikeModel(t *testing.T) {
	draw := rand.New(rand.NewSource(5))
	good := 0
	for range 20000 {
		var lines []string
		for range draw.Intn(5) {
			lines = append(lines, []string{drawnLine(draw), drawnLine(draw), drawnLine(draw), "", " # x"}[draw.Intn(5)])
		}
		if likeModel(t, strings.Join(lines, "\n")+[]string{"", "\n"}[draw.Intn(2)]) {
			good++
		}
	}
	if good < 3000 || good > 18000 {
		t.Errorf("of 20000 texts %d were a set's", good)
	}
}

func TestLongTexts(t *testing.T) {
	l := many(20000)
	s := text.Print(l)
	wantRead(t, s, l, len(s), api.OK)
	wantParse(t, s, nil, 0, api.ErrMany)
	stops(t, s+"task", len(s)+4)
	stops(t, s+"x", len(s))
	reads(t, strings.Repeat("\n", 300000))
	reads(t, strings.Repeat("# x\n", 100000)+"task a c=1 t=4 p=1", api.Task{Name: "a", C: 1, T: 4, D: 4, Q: 1, P: 1})
	long := strings.Repeat(" ", 300000)
	reads(t, "task"+long+"a c=1"+long+"t=4 p="+strings.Repeat("0", 300000)+"1", api.Task{Name: "a", C: 1, T: 4, D: 4, Q: 1, P: 1})
}

// P5.2

func TestParseOfSetsThatMayBe(t *testing.T) {
	for _, n := range []int{1, 2, 3, 64, 1023, 1024} {
		l := many(n)
		wantParse(t, text.Print(l), l, n, api.OK)
	}
	one := api.Task{Name: "a", C: most, T: most, D: most, Q: 1, P: prios}
	wantParse(t, "task a c=2147483647 t=2147483647 p=1048576", rows(one), 1, api.OK)
	l, n, e := text.Parse("# two\n\ntask b c=1 t=4 p=1\ntask a c=1 t=9 p=2")
	if want := rows(api.Task{Name: "b", C: 1, T: 4, D: 4, Q: 1, P: 1}, api.Task{Name: "a", C: 1, T: 9, D: 9, Q: 1, P: 2}); !slices.Equal(l, want) || n != 2 || e != api.OK {
		t.Errorf("of two: %v, %d, %d", l, n, int(e))
	}
}

func TestParseOfHowMany(t *testing.T) {
	wantParse(t, "", nil, 0, api.ErrMany)
	wantParse(t, "\n# x\n", nil, 0, api.ErrMany)
	for _, n := range []int{1025, 1026, 3000} {
		l := many(n)
		s := text.Print(l)
		wantRead(t, s, l, len(s), api.OK)
		wantParse(t, s, nil, 0, api.ErrMany)
	}
	l := many(1025)
	l[3].C = 0
	wantParse(t, text.Print(l), nil, 0, api.ErrMany)
}

// A set that is read, but may not be: the fault, and its place, are those of the task.
func TestParseOfSetsThatMayNotBe(t *testing.T) {
	faults := []struct {
		set func(a *api.Task)
		e   api.Errno
	}{
		{func(a *api.Task) { a.Name = strings.Repeat("a", 33) }, api.ErrRange},
		{func(a *api.Task) { a.C = 0 }, api.ErrRange},
		{func(a *api.Task) { a.T = most + 1 }, api.ErrRange},
		{func(a *api.Task) { a.D = 0 }, api.ErrRange},
		{func(a *api.Task) { a.J = numbers }, api.ErrRange},
		{func(a *api.Task) { a.Q = 0 }, api.ErrRange},
		{func(a *api.Task) { a.P = 0 }, api.ErrRange},
		{func(a *api.Task) { a.P = prios + 1 }, api.ErrRange},
		{func(a *api.Task) { a.Q = a.C + 1 }, api.ErrConstraint},
		{func(a *api.Task) { a.D = a.C + a.J - 1 }, api.ErrConstraint},
		{func(a *api.Task) { a.D = a.T + 1 }, api.ErrConstraint},
	}
	for _, n := range []int{1, 2, 3, 10} {
		for at := range n {
			for _, fault := range faults {
				l := many(n)
				fault.set(&l[at])
				s := text.Print(l)
				wantRead(t, s, l, len(s), api.OK)
				wantParse(t, s, nil, at, fault.e)
				wantParse(t, "# x\n\n\n"+strings.ReplaceAll(s, "\n", " # y\n\n"), nil, at, fault.e)
			}
			for ahead := range at {
				l := many(n)
				l[at].Name = l[ahead].Name
				wantParse(t, text.Print(l), nil, at, api.ErrDuplicate)
				l = many(n)
				l[at].P = l[ahead].P
				wantParse(t, text.Print(l), nil, at, api.ErrDuplicate)
			}
		}
	}
	l := many(5)
	l[3].C, l[4].T = 0, 0
	wantParse(t, text.Print(l), nil, 3, api.ErrRange)
	l[1].D = l[1].T + 1
	wantParse(t, text.Print(l), nil, 1, api.ErrConstraint)
}

// What the text is wrong in comes ahead of what the set is wrong in.
func TestParseTellsReadsErrorFirst(t *testing.T) {
	stopsAt(t, "task a c=0 t=4 p=1\ntask b c=1^")
	stopsAt(t, "task a c=1 t=4 p=1\ntask a c=1 t=4 p=1\n^x")
	stopsAt(t, "task a c=0 t=4 p=1^;")
	stopsAt(t, text.Print(many(1025))+"task ^1")
}

// P5.3

func TestLine(t *testing.T) {
	for _, x := range []struct {
		a    api.Task
		want string
	}{
		{api.Task{}, "task  c=0 t=0 d=0 j=0 q=0 p=0\n"},
		{api.Task{Name: "a", C: 1, T: 9, D: 9, J: 0, Q: 1, P: 2}, "task a c=1 t=9 d=9 j=0 q=1 p=2\n"},
		{api.Task{Name: "abc", C: 1, T: 2, D: 3, J: 4, Q: 5, P: 6}, "task abc c=1 t=2 d=3 j=4 q=5 p=6\n"},
		{api.Task{Name: "a", C: -1, T: -20, D: -300, J: -4, Q: -5, P: -60}, "task a c=-1 t=-20 d=-300 j=-4 q=-5 p=-60\n"},
		{api.Task{Name: "a", C: 10, T: 100, D: 1000, J: 10000, Q: 9, P: 99}, "task a c=10 t=100 d=1000 j=10000 q=9 p=99\n"},
		{api.Task{Name: "a", C: math.MaxInt64, T: math.MaxInt64, D: math.MaxInt64, J: math.MaxInt64, Q: math.MaxInt64, P: math.MaxInt}, strings.ReplaceAll("task a c=N t=N d=N j=N q=N p=N\n", "N", "9223372036854775807")},
		{api.Task{Name: "a", C: math.MinInt64, T: math.MinInt64, D: math.MinInt64, J: math.MinInt64, Q: math.MinInt64, P: math.MinInt}, strings.ReplaceAll("task a c=N t=N d=N j=N q=N p=N\n", "N", "-9223372036854775808")},
		// Of any value, also of names that are none.
		{api.Task{Name: "a b\n#\x00\xff%d"}, "task a b\n#\x00\xff%d c=0 t=0 d=0 j=0 q=0 p=0\n"},
		{api.Task{Name: strings.Repeat("n", 5000), P: 1}, "task " + strings.Repeat("n", 5000) + " c=0 t=0 d=0 j=0 q=0 p=1\n"},
	} {
		if got := text.Line(x.a); got != x.want {
			t.Errorf("Line of %v: %s, want %s", x.a, shown(got), shown(x.want))
		}
		if got := text.Print(rows(x.a)); got != x.want {
			t.Errorf("Print of %v alone: %s, want %s", x.a, shown(got), shown(x.want))
		}
	}
}

func TestLineOfDrawnNumbers(t *testing.T) {
	draw := rand.New(rand.NewSource(53))
	n := func() int64 { return int64(draw.Uint64()) >> draw.Intn(64) }
	for range 20000 {
		a := api.Task{Name: "a", C: n(), T: n(), D: n(), J: n(), Q: n(), P: int(n())}
		if got, want := text.Line(a), fmt.Sprintf("task %s c=%d t=%d d=%d j=%d q=%d p=%d\n", a.Name, a.C, a.T, a.D, a.J, a.Q, a.P); got != want {
			t.Errorf("Line of %v: %q, want %q", a, got, want)
		}
	}
}

func TestPrint(t *testing.T) {
	if got := text.Print(nil); got != "" {
		t.Errorf("Print of nil: %q", got)
	}
	if got := text.Print([]api.Task{}); got != "" {
		t.Errorf("Print of none: %q", got)
	}
	l := rows(
		api.Task{Name: "slow", C: 3, T: 20, D: 20, Q: 3, P: 3},
		api.Task{Name: "a", C: -1, P: -7},
		api.Task{},
		api.Task{Name: "slow", C: 3, T: 20, D: 20, Q: 3, P: 3},
	)
	before := slices.Clone(l)
	want := "task slow c=3 t=20 d=20 j=0 q=3 p=3\ntask a c=-1 t=0 d=0 j=0 q=0 p=-7\ntask  c=0 t=0 d=0 j=0 q=0 p=0\ntask slow c=3 t=20 d=20 j=0 q=3 p=3\n"
	if got := text.Print(l); got != want {
		t.Errorf("Print of four: %q, want %q", got, want)
	}
	if !slices.Equal(l, before) {
		t.Error("Print changes what it is handed")
	}
	lines := ""
	long := many(3000)
	for _, a := range long {
		lines += text.Line(a)
	}
	if text.Print(long) != lines {
		t.Error("Print of 3000 is not their lines")
	}
}

// P5.4

// drawnSet is one that may be.
func drawnSet(draw *rand.Rand) []api.Task {
	l := make([]api.Task, 1+draw.Intn(20))
	prio := 0
	for i := range l {
		length := int64(1) << (1 + draw.Intn(31))
		n := func(low, high int64) int64 { return low + draw.Int63n(high-low+1) }
		prio += 1 + draw.Intn(prios/20-1)
		a := api.Task{Name: fmt.Sprint([]string{"t", "task", "c", "a.b-", "_"}[draw.Intn(5)], i), P: prio}
		a.T = n(1, min(length, most))
		a.D = n(1, a.T)
		a.C = n(1, a.D)
		a.J = n(0, a.D-a.C)
		a.Q = n(1, a.C)
		l[i] = a
	}
	draw.Shuffle(len(l), func(i, k int) { l[i].P, l[k].P = l[k].P, l[i].P })
	return l
}

func TestPrintedIsParsedToTheSame(t *testing.T) {
	draw := rand.New(rand.NewSource(54))
	for range 3000 {
		l := drawnSet(draw)
		if n, e := task.CheckAll(l); n != len(l) || e != api.OK {
			t.Fatalf("the test draws %v, which may not be: %d, %d", l, n, int(e))
		}
		wantParse(t, text.Print(l), l, len(l), api.OK)
	}
	for _, n := range []int{1, 2, 1023, 1024} {
		wantParse(t, text.Print(many(n)), many(n), n, api.OK)
	}
}

// again asks that what a text is parsed to is printed, and parsed to the same, and printed as it was.
func again(t *testing.T, s string) {
	t.Helper()
	l, n, e := text.Parse(s)
	if e != api.OK {
		t.Errorf("Parse of %s: %d at %d", shown(s), int(e), n)
		return
	}
	printed := text.Print(l)
	wantParse(t, printed, l, n, api.OK)
	twice, _, _ := text.Parse(printed)
	if text.Print(twice) != printed {
		t.Errorf("%s, printed, parsed and printed: %s, then %s", shown(s), shown(printed), shown(text.Print(twice)))
	}
}

func TestParsedPrintedAndParsedAgain(t *testing.T) {
	again(t, "task a p=2 c=1 t=9")
	again(t, "task a p=0002 c=01 t=9 # x")
	again(t, "# two\n\ntask a t=9 c=2 p=1 q=2 # first\ntask b c=1 t=12 d=8 j=3 p=4")
	again(t, "\n\ntask task q=2 p=3 c=2 t=40\n\t# x\ntask c p = 1 d = 7 c = 3 t = 9 j = 4")
	draw := rand.New(rand.NewSource(55))
	parsed := 0
	for range 30000 {
		var lines []string
		for range 1 + draw.Intn(3) {
			lines = append(lines, drawnLine(draw))
		}
		s := strings.Join(lines, "\n")
		if _, _, e := text.Parse(s); e == api.OK {
			parsed++
			again(t, s)
		}
	}
	if parsed < 100 {
		t.Errorf("but %d of the drawn texts are those of sets that may be", parsed)
	}
}

// What is printed of numbers below 0 is no set's text: no token begins with their sign.
func TestPrintedOfNumbersBelowNoughtIsNotRead(t *testing.T) {
	for _, below := range []func(a *api.Task){
		func(a *api.Task) { a.C = -1 },
		func(a *api.Task) { a.T = -1 },
		func(a *api.Task) { a.D = -1 },
		func(a *api.Task) { a.J = -1 },
		func(a *api.Task) { a.Q = -1 },
		func(a *api.Task) { a.P = -1 },
	} {
		l := many(3)
		below(&l[1])
		s := text.Print(l)
		stops(t, s, strings.IndexByte(s, '-'))
	}
}

// What is read and not what may be is printed and read again to the same, too, as far as numbers go.
func TestReadPrintedAndReadAgain(t *testing.T) {
	for _, s := range []string{"", "task a c=0 t=0 p=0", "task a c=1 t=4 d=0 q=0 p=99999999999999999999", "task a c=9 t=4 p=1\ntask a c=9 t=4 p=1"} {
		l, _, e := text.Read(s)
		printed := text.Print(l)
		if e != api.OK {
			t.Errorf("Read of %q: %d", s, int(e))
		}
		wantRead(t, printed, l, len(printed), api.OK)
	}
}

// R1, R3, P1

func TestWhatIsToldIsTheCallers(t *testing.T) {
	const s = "task a c=1 t=4 p=1\ntask b c=2 t=9 p=2"
	for _, call := range []func(string) ([]api.Task, int, api.Errno){text.Read, text.Parse} {
		first, _, _ := call(s)
		kept := slices.Clone(first)
		for i := range first {
			first[i] = api.Task{Name: "changed"}
		}
		if second, _, _ := call(s); !slices.Equal(second, kept) {
			t.Errorf("asked again: %v, want %v", second, kept)
		}
	}
}

// Whatever the bytes are, each call ends and none panics; and with an error nothing else is told.
func TestAnyBytes(t *testing.T) {
	draw := rand.New(rand.NewSource(51))
	const mostly = "task a c=1 t=4 p=1 dqj \n\n=#0123456789"
	for range 20000 {
		b := make([]byte, draw.Intn(60))
		for i := range b {
			if b[i] = mostly[draw.Intn(len(mostly))]; draw.Intn(100) == 0 {
				b[i] = byte(draw.Intn(256))
			}
		}
		likeModel(t, string(b))
	}
	for c := range 256 {
		likeModel(t, string([]byte{byte(c)}))
		likeModel(t, "task a"+string([]byte{byte(c)})+" c=1 t=4 p=1")
		likeModel(t, "task a c=1 t=4 p=1"+string([]byte{byte(c)}))
	}
}

func Example() {
	l, n, e := text.Parse("# two\n\ntask a t=9 c=2 p=1 q=2 # first\ntask b c=1 t=12 d=8 j=3 p=4")
	fmt.Println(n, e)
	fmt.Print(text.Print(l))
	_, at, e := text.Parse("task a c=1 c=2")
	fmt.Println(at, e)
	// Output:
	// 2 cadency: error 0
	// task a c=2 t=9 d=9 j=0 q=2 p=1
	// task b c=1 t=12 d=8 j=3 q=1 p=4
	// 11 cadency: error 10
}
