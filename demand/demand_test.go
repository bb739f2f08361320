package demand_test

import (
	"fmt"
	"iter"
	"math"
	"math/big"
	"math/rand"
	"slices"
	"strings"
	"testing"

	"cadency/api"
	"cadency/demand"
	"cadency/task"
)

const (
	top  = uint64(math.MaxUint64)
	long = int64(api.MaxTime)
)

// row is a task by its numbers: C, T, J, Q, P; its D is its T.
type row [5]int64

// set are tasks of these rows, with names of their own.
func set(rows ...row) []api.Task {
	l := make([]api.Task, len(rows))
	for i, r := range rows {
		l[i] = api.Task{Name: fmt.Sprint("t", i), C: r[0], T: r[1], D: r[1], J: r[2], Q: r[3], P: int(r[4])}
	}
	return l
}

// example is the chapter's.
func example() []api.Task {
	return set(row{1, 4, 0, 1, 1}, row{2, 9, 0, 1, 2}, row{3, 20, 0, 3, 3})
}

// mixed is a set whose tasks do not stand in the order of their urgency.
func mixed() []api.Task {
	l := set(row{5, 30, 3, 4, 7}, row{1, 5, 2, 1, 1}, row{2, 12, 0, 2, 3}, row{4, 60, 9, 1, 40}, row{3, 18, 7, 3, 2})
	l[2].D = 10
	return l
}

// full is a set of as many tasks as may be, the least urgent one first.
func full() []api.Task {
	l := make([]api.Task, api.MaxTasks)
	for i := range l {
		n := int64(i)
		l[i] = set(row{1 + n%3, 5000 + n%97, n % 11, 1 + n%3%2, api.MaxTasks - n})[0]
		l[i].Name = fmt.Sprint("t", i)
	}
	return l
}

func shown(l []api.Task) string {
	s := make([]string, 0, 6)
	for _, t := range l[:min(len(l), 6)] {
		s = append(s, fmt.Sprint(t.C, " ", t.T, " ", t.J, " ", t.Q, " ", t.P))
	}
	return fmt.Sprintf("%d tasks (%s)", len(l), strings.Join(s, ", "))
}

// The models: what the chapter's words say, in numbers of any size.

func wide(n uint64) *big.Int { return new(big.Int).SetUint64(n) }

// end is n, or 2^64 less 1, if it needs more than 64 bits.
func end(n *big.Int) *big.Int {
	if n.IsUint64() {
		return n
	}
	return wide(top)
}

func may(l []api.Task, i int) bool {
	_, e := task.CheckAll(l)
	return e == api.OK && i >= 0 && i < len(l)
}

func modelBlock(l []api.Task, i int) int64 {
	greatest := int64(0)
	if may(l, i) {
		for _, t := range l {
			if t.P > l[i].P && t.Q-1 > greatest {
				greatest = t.Q - 1
			}
		}
	}
	return greatest
}

func modelHigher(l []api.Task, i int, w uint64) uint64 {
	sum := new(big.Int)
	if w == 0 || !may(l, i) {
		return 0
	}
	for _, t := range l {
		if t.P < l[i].P {
			often := end(new(big.Int).Add(wide(w), big.NewInt(t.J)))
			often, left := new(big.Int).DivMod(often, big.NewInt(t.T), new(big.Int))
			if left.Sign() != 0 {
				often.Add(often, big.NewInt(1))
			}
			sum = end(sum.Add(sum, end(often.Mul(often, big.NewInt(t.C)))))
		}
	}
	return sum.Uint64()
}

func modelNeed(l []api.Task, i int, w uint64) uint64 {
	if !may(l, i) {
		return 0
	}
	sum := new(big.Int).Add(big.NewInt(l[i].C), big.NewInt(modelBlock(l, i)))
	return end(sum.Add(sum, wide(modelHigher(l, i, w)))).Uint64()
}

// modelSteps looks at each number there is; so most is small.
func modelSteps(l []api.Task, i int, most uint64) []uint64 {
	var steps []uint64
	before := uint64(0)
	for w := uint64(1); w <= most && len(steps) < api.MaxMany; w++ {
		if now := modelHigher(l, i, w); now > before {
			steps, before = append(steps, w), now
		}
	}
	return steps
}

// countedSteps are those up to most, however many there are, by when each more urgent task is released: so many T, less J.
func countedSteps(l []api.Task, i int, most int64) []uint64 {
	var steps []uint64
	for _, t := range l {
		if t.P < l[i].P {
			steps = append(steps, 1)
			for w := t.T - t.J + 1; w <= most; w += t.T {
				steps = append(steps, uint64(w))
			}
		}
	}
	slices.Sort(steps)
	return slices.Compact(steps)
}

// Calls, and what they should tell.

// kept makes a call, and holds what it was handed in against what that is afterwards, also behind its end.
func kept(t *testing.T, what string, l []api.Task, call func(l []api.Task)) {
	t.Helper()
	room := append(slices.Clone(l), api.Task{Name: "x", C: 11}, api.Task{J: -1})
	before := slices.Clone(room)
	call(room[:len(l)])
	if !slices.Equal(room, before) {
		t.Fatalf("%s of %s: what was handed in is changed", what, shown(l))
	}
}

func wantBlock(t *testing.T, l []api.Task, i int, want int64) {
	t.Helper()
	var got int64
	kept(t, "Block", l, func(l []api.Task) { got = demand.Block(l, i) })
	if got != want {
		t.Fatalf("Block of %d of %s: %d, want %d", i, shown(l), got, want)
	}
}

func wantHigher(t *testing.T, l []api.Task, i int, w, want uint64) {
	t.Helper()
	var got uint64
	kept(t, "Higher", l, func(l []api.Task) { got = demand.Higher(l, i, w) })
	if got != want {
		t.Fatalf("Higher of %d of %s, in %d: %d, want %d", i, shown(l), w, got, want)
	}
}

func wantNeed(t *testing.T, l []api.Task, i int, w, want uint64) {
	t.Helper()
	var got uint64
	kept(t, "Need", l, func(l []api.Task) { got = demand.Need(l, i, w) })
	if got != want {
		t.Fatalf("Need of %d of %s, in %d: %d, want %d", i, shown(l), w, got, want)
	}
}

// wantSteps goes over the steps twice.
func wantSteps(t *testing.T, l []api.Task, i int, most uint64, want ...uint64) {
	t.Helper()
	var steps iter.Seq[uint64]
	kept(t, "Steps", l, func(l []api.Task) { steps = demand.Steps(l, i, most) })
	if steps == nil {
		t.Fatalf("Steps of %d of %s, up to %d: nil", i, shown(l), most)
	}
	for range 2 {
		if got := slices.Collect(steps); !slices.Equal(got, want) {
			t.Fatalf("Steps of %d of %s, up to %d: %d (%d), want %d (%d)", i, shown(l), most, got[:min(len(got), 50)], len(got), want[:min(len(want), 50)], len(want))
		}
	}
}

// wantWork holds Higher and Need of w against the models.
func wantWork(t *testing.T, l []api.Task, i int, w uint64) {
	t.Helper()
	wantHigher(t, l, i, w, modelHigher(l, i, w))
	wantNeed(t, l, i, w, modelNeed(l, i, w))
}

// wantAll holds all that is told of l against the models: of each place, of each w up to most, and of each step up to there.
func wantAll(t *testing.T, l []api.Task, most uint64) {
	t.Helper()
	for i := -1; i <= len(l); i++ {
		wantBlock(t, l, i, modelBlock(l, i))
		for w := uint64(0); w <= most; w++ {
			wantWork(t, l, i, w)
		}
		for _, w := range ends(l) {
			wantWork(t, l, i, w)
		}
		wantSteps(t, l, i, most, modelSteps(l, i, most)...)
	}
}

// wantNothing asks all of a set that may not be, or of a place that there is not.
func wantNothing(t *testing.T, l []api.Task, i int) {
	t.Helper()
	wantBlock(t, l, i, 0)
	for _, w := range []uint64{0, 1, 5, 1 << 63, top} {
		wantHigher(t, l, i, w, 0)
		wantNeed(t, l, i, w, 0)
		wantSteps(t, l, i, w)
	}
}

// ends are ticks near those where a task is released once more, and where sums and products may need more than 64 bits.
func ends(l []api.Task) []uint64 {
	ws := []uint64{0, 1, 2, 1<<31 - 1, 1 << 31, 1 << 32, 1<<63 - 1, 1 << 63, 1<<63 + 1, top - 1, top}
	for _, t := range l[:min(len(l), 8)] {
		c, p, j := uint64(t.C), uint64(t.T), uint64(t.J)
		if t.C < 1 || t.T < 1 || t.J < 0 || t.J > t.T {
			continue // of no set that may be
		}
		for _, w := range []uint64{p - j, p, 2*p - j, 7*p - j, top - j, top - p, top / p * p, top / c, top/c/p*p - j} {
			ws = append(ws, w-1, w, w+1)
		}
	}
	return ws
}

// perms calls do with each order of l, and, by l's places, where these stand in it.
func perms(l []api.Task, do func(l []api.Task, at []int)) {
	own, places := slices.Clone(l), make([]int, len(l))
	for i := range places {
		places[i] = i
	}
	var from func(n int)
	from = func(n int) {
		if n == len(own) {
			at := make([]int, len(l))
			for k, place := range places {
				at[place] = k
			}
			do(own, at)
			return
		}
		for i := n; i < len(own); i++ {
			own[n], own[i], places[n], places[i] = own[i], own[n], places[i], places[n]
			from(n + 1)
			own[n], own[i], places[n], places[i] = own[i], own[n], places[i], places[n]
		}
	}
	from(0)
}

// drawn is a set that may be, of up to n tasks, in no order, with numbers up to some end.
func drawn(r *rand.Rand, n int, end int64) []api.Task {
	l := make([]api.Task, 1+r.Intn(n))
	prios := r.Perm(2 * len(l))
	for i := range l {
		p := 1 + r.Int63n(end)
		c := 1 + r.Int63n(p)
		j := r.Int63n(p - c + 1)
		l[i] = set(row{c, p, j, 1 + r.Int63n(c), int64(1 + prios[i])})[0]
		l[i].Name = fmt.Sprint("t", i)
		l[i].D -= r.Int63n(p - c - j + 1)
	}
	return l
}

// P13.1

func TestBlock(t *testing.T) {
	for i, want := range []int64{2, 2, 0} { // the chapter's; the last one is the least urgent
		wantBlock(t, example(), i, want)
	}
	for i, want := range []int64{0, 3, 3, 0, 3} { // 7 is behind 1, 3 and 2; behind it is one with Q of 1
		wantBlock(t, mixed(), i, want)
	}
	several := set(row{9, 9, 0, 9, 5}, row{4, 9, 0, 4, 9}, row{6, 9, 0, 4, 7}, row{5, 9, 0, 4, 8}, row{3, 9, 0, 2, 10})
	for i, want := range []int64{3, 1, 3, 3, 0} { // several with Q alike behind the first one, of which its own is no part
		wantBlock(t, several, i, want)
	}
	wantBlock(t, set(row{9, 9, 0, 9, 2}, row{9, 9, 0, 1, 3}, row{9, 9, 0, 1, 4}), 0, 0) // Q of 1
	greatest := set(row{1, long, 0, 1, 2}, row{long, long, 0, long, 3}, row{1, long, 0, 1, 1})
	for i, want := range []int64{long - 1, 0, long - 1} { // the greatest Q
		wantBlock(t, greatest, i, want)
	}
	wantBlock(t, set(row{9, 9, 0, 9, 1}), 0, 0) // one task
	wantBlock(t, set(row{long, long, 0, long, api.MaxPrio}), 0, 0)
	urgent := set(row{9, 9, 0, 9, 1}, row{2, 9, 0, 2, api.MaxPrio}) // the greatest Q is that of one that is more urgent
	wantBlock(t, urgent, 0, 1)
	wantBlock(t, urgent, 1, 0)
}

// What a less urgent one works, and how often, is of no account: only its Q.
func TestBlockHangsOnQAlone(t *testing.T) {
	for _, r := range []row{{3, 9, 0, 3, 2}, {3, 9, 6, 3, 2}, {9, 9, 0, 3, 2}, {3, long, 0, 3, api.MaxPrio}, {long, long, 0, 3, 99}} {
		wantBlock(t, set(row{1, 4, 0, 1, 1}, r), 0, 2)
	}
}

// P13.2

func TestHigher(t *testing.T) {
	wantHigher(t, example(), 1, 5, 2) // the chapter's
	for _, c := range []struct{ w, one, two, three uint64 }{
		{0, 0, 0, 0}, {1, 0, 1, 3}, {3, 0, 1, 3}, {4, 0, 1, 3}, {5, 0, 2, 4}, {8, 0, 2, 4}, {9, 0, 3, 5}, {10, 0, 3, 7}, {36, 0, 9, 17}, {37, 0, 10, 20},
	} {
		for i, want := range []uint64{c.one, c.two, c.three} {
			wantHigher(t, example(), i, c.w, want)
		}
	}
	for _, c := range []struct{ w, want uint64 }{{0, 0}, {1, 3}, {3, 3}, {4, 4}, {8, 4}, {9, 5}, {12, 5}, {13, 7}, {14, 8}} {
		l := set(row{5, 30, 0, 4, 7}, row{1, 5, 2, 1, 1}, row{2, 12, 0, 2, 3})
		wantHigher(t, l, 0, c.w, c.want)
		wantHigher(t, l, 1, c.w, 0) // the most urgent one
	}
	for _, w := range []uint64{0, 1, 9, 1 << 31, top} {
		wantHigher(t, set(row{3, 9, 6, 1, 1}), 0, w, 0) // one task
		wantHigher(t, mixed(), 1, w, 0)
	}
}

// A jitter brings each release but the first nearer, by just so much; in no ticks there is no work, however great it is.
func TestHigherWithJitter(t *testing.T) {
	for _, j := range []int64{0, 1, 3, 6, 7, 8} { // up to T less C
		l := set(row{1, 9, 0, 1, 2}, row{1, 9, j, 1, 1})
		end := uint64(9 - j)
		for _, c := range []struct{ w, want uint64 }{{0, 0}, {1, 1}, {end, 1}, {end + 1, 2}, {end + 9, 2}, {end + 10, 3}, {end + 900, 101}, {end + 901, 102}} {
			wantHigher(t, l, 0, c.w, c.want)
			wantNeed(t, l, 0, c.w, c.want+1)
		}
	}
	l := set(row{1, 9, 0, 1, 2}, row{1, long, long - 1, 1, 1})
	for _, c := range []struct{ w, want uint64 }{{0, 0}, {1, 1}, {2, 2}, {1 << 31, 2}, {1<<31 + 1, 3}, {1<<32 - 1, 3}, {1 << 32, 4}} {
		wantHigher(t, l, 0, c.w, c.want)
	}
}

// Each step where it needs just 64 bits, and more.
func TestHigherAtItsEnds(t *testing.T) {
	over := func(w, want uint64, rows ...row) { // of one that is less urgent than all of these
		t.Helper()
		wantHigher(t, set(append(rows, row{1, 1, 0, 1, 99})...), len(rows), w, want)
	}
	// w and J together.
	over(top, top/3, row{1, 3, 2, 1, 1})
	over(top, top/3, row{1, 3, 1, 1, 1})
	over(top-1, top/3, row{1, 3, 2, 1, 1}) // as great as it would be at 2^64, if that were not its end
	over(top-3, top/3, row{1, 3, 2, 1, 1})
	over(top-5, top/3-1, row{1, 3, 2, 1, 1})
	over(top, top/5*4, row{4, 5, 1, 1, 1})
	over(top-1, top/5*4, row{4, 5, 1, 1, 1})
	over(top, 1<<33+5, row{1, long, long - 1, 1, 1}) // one less than it would be
	// The product.
	over(top, top, row{1, 1, 0, 1, 1})
	over(top-1, top-1, row{1, 1, 0, 1, 1})
	over(top, top, row{2, 2, 0, 1, 1}) // 2^64 itself
	over(top-1, top-1, row{2, 2, 0, 1, 1})
	over(top-2, top-1, row{2, 2, 0, 1, 1})
	over(top, top, row{7, 7, 0, 1, 1}) // it would be 5, cut off
	over(top-1, top-1, row{7, 7, 0, 1, 1})
	over(top, top, row{long, long, 0, 1, 1})
	over(top, top, row{3, 3, 0, 1, 1})
	over(top-2, top, row{3, 3, 0, 1, 1})
	over(top-3, top-3, row{3, 3, 0, 1, 1})
	// The sum.
	two := top / 3 * 2
	over(two, top, row{1, 1, 0, 1, 1}, row{1, 2, 0, 1, 2})
	over(two-1, top-1, row{1, 1, 0, 1, 1}, row{1, 2, 0, 1, 2})
	over(two+1, top, row{1, 1, 0, 1, 1}, row{1, 2, 0, 1, 2}) // it would be 1
	over(1<<63, top, row{1, 1, 0, 1, 1}, row{1, 1, 0, 1, 2}) // it would be 0
	over(1<<63-1, top-1, row{1, 1, 0, 1, 1}, row{1, 1, 0, 1, 2})
	over(top, top, row{1, 1, 0, 1, 1}, row{1, 1, 0, 1, 2}, row{1, 1, 0, 1, 3})
	over(1<<62, 3<<62, row{1, 1, 0, 1, 1}, row{1, 1, 0, 1, 2}, row{1, 1, 0, 1, 3})
	// What is at its end stays there, whatever comes.
	over(top, top, row{1, long, 0, 1, 2}, row{2, 2, 0, 1, 3}, row{1, long, 0, 1, 1})
	over(top, top, row{2, 2, 0, 1, 3}, row{1, long, 0, 1, 1}, row{1, long, 0, 1, 2})
	over(1<<63, top, row{1, 1, 0, 1, 3}, row{1, 1, 0, 1, 1}, row{1, long, 0, 1, 2})
}

func TestNeed(t *testing.T) {
	wantNeed(t, example(), 1, 5, 6) // the chapter's
	for i, want := range []uint64{3, 4, 3} {
		wantNeed(t, example(), i, 0, want) // C and Block
	}
	for i, want := range []uint64{5, 4, 5, 4, 6} {
		wantNeed(t, mixed(), i, 0, want)
	}
	for _, c := range []struct{ w, want uint64 }{{1, 8}, {3, 8}, {4, 9}, {13, 12}} {
		wantNeed(t, set(row{5, 30, 0, 4, 7}, row{1, 5, 2, 1, 1}, row{2, 12, 0, 2, 3}), 0, c.w, c.want)
	}
	for _, w := range []uint64{0, 1, 9, top} {
		wantNeed(t, set(row{4, 9, 5, 3, 1}), 0, w, 4) // one task: its C
		wantNeed(t, set(row{4, 9, 5, 3, 2}, row{7, 9, 0, 7, 3}), 0, w, 10)
		wantNeed(t, set(row{long, long, 0, 1, 2}, row{long, long, 0, long, 3}), 0, w, uint64(2*long-1))
	}
}

// The sum of C, Block and Higher, where it needs just 64 bits, and more.
func TestNeedAtItsEnd(t *testing.T) {
	l := set(row{5, 9, 0, 1, 2}, row{4, 9, 0, 4, 3}, row{1, 1, 0, 1, 1}) // C 5, Block 3, Higher what w is
	for _, c := range []struct{ w, want uint64 }{{0, 8}, {1, 9}, {top - 9, top - 1}, {top - 8, top}, {top - 7, top}, {top - 5, top}, {top - 3, top}, {top - 1, top}, {top, top}} {
		wantHigher(t, l, 0, c.w, c.w)
		wantNeed(t, l, 0, c.w, c.want)
	}
	l = set(row{5, 9, 0, 1, 2}, row{1, 1, 0, 1, 1}) // no Block
	for _, c := range []struct{ w, want uint64 }{{top - 6, top - 1}, {top - 5, top}, {top - 4, top}, {top, top}} {
		wantNeed(t, l, 0, c.w, c.want)
	}
	l = set(row{long, long, 0, 1, 2}, row{long, long, 0, long, 3}, row{1, 1, 0, 1, 1})
	wantNeed(t, l, 0, top-uint64(2*long), top-1)
	wantNeed(t, l, 0, top-uint64(2*long)+1, top)
	wantNeed(t, l, 0, top-uint64(2*long)+2, top)
	wantNeed(t, l, 0, top, top)
	l = set(row{5, 9, 0, 1, 2}, row{4, 9, 0, 4, 3}, row{2, 2, 0, 1, 1}) // Higher is at its end by itself
	wantHigher(t, l, 0, top, top)
	wantNeed(t, l, 0, top, top)
}

// P13.3

func TestSteps(t *testing.T) {
	wantSteps(t, example(), 1, 20, 1, 5, 9, 13, 17)
	wantSteps(t, example(), 2, 30, 1, 5, 9, 10, 13, 17, 19, 21, 25, 28, 29)
	l := set(row{5, 30, 0, 4, 7}, row{1, 5, 2, 1, 1}, row{2, 12, 0, 2, 3})
	wantSteps(t, l, 0, 20, 1, 4, 9, 13, 14, 19)
	wantSteps(t, l, 2, 20, 1, 4, 9, 14, 19)
	for _, c := range []struct {
		most uint64
		want []uint64
	}{
		{0, nil},
		{1, []uint64{1}},
		{2, []uint64{1}},
		{3, []uint64{1}}, // one less than a step
		{4, []uint64{1, 4}},
		{5, []uint64{1, 4}},
		{8, []uint64{1, 4}},
		{9, []uint64{1, 4, 9}}, // just a step
		{12, []uint64{1, 4, 9}},
		{13, []uint64{1, 4, 9, 13}},
	} {
		wantSteps(t, l, 0, c.most, c.want...)
	}
	for _, most := range []uint64{0, 1, 99, top} {
		wantSteps(t, l, 1, most) // the most urgent one
		wantSteps(t, set(row{1, 9, 8, 1, 1}), 0, most)
	}
}

// The first step is 1, whatever the jitters; the others come as much ahead as these are.
func TestStepsWithJitter(t *testing.T) {
	for _, c := range []struct {
		j    int64
		want []uint64
	}{{0, []uint64{1, 10, 19, 28}}, {1, []uint64{1, 9, 18, 27}}, {4, []uint64{1, 6, 15, 24}}, {7, []uint64{1, 3, 12, 21}}, {8, []uint64{1, 2, 11, 20, 29}}} {
		wantSteps(t, set(row{1, 9, 0, 1, 2}, row{1, 9, c.j, 1, 1}), 0, 29, c.want...)
	}
}

// Where several are released at once, there is one step.
func TestStepsThatFallTogether(t *testing.T) {
	wantSteps(t, set(row{1, 9, 0, 1, 9}, row{1, 4, 0, 1, 1}, row{1, 6, 0, 1, 2}), 0, 25, 1, 5, 7, 9, 13, 17, 19, 21, 25)
	wantSteps(t, set(row{1, 5, 0, 1, 1}, row{2, 5, 0, 1, 2}, row{3, 5, 0, 1, 3}, row{1, 9, 0, 1, 4}), 3, 16, 1, 6, 11, 16) // all of them
	wantSteps(t, set(row{1, 5, 2, 1, 1}, row{1, 9, 6, 1, 2}, row{1, 9, 0, 1, 4}), 2, 22, 1, 4, 9, 13, 14, 19, 22)
	wantSteps(t, set(row{1, 1, 0, 1, 1}, row{1, 1, 0, 1, 2}, row{1, 7, 0, 1, 4}), 2, 5, 1, 2, 3, 4, 5)
}

// There are at most 4096 of them, also where there is no other end.
func TestManySteps(t *testing.T) {
	upTo := func(n int, step func(k uint64) uint64) []uint64 {
		l := make([]uint64, n)
		for k := range l {
			l[k] = step(uint64(k))
		}
		return l
	}
	each := set(row{1, 9, 0, 1, 2}, row{1, 1, 0, 1, 1})
	one := func(k uint64) uint64 { return k + 1 }
	for _, most := range []uint64{4094, 4095, 4096} {
		wantSteps(t, each, 0, most, upTo(int(most), one)...)
	}
	for _, most := range []uint64{4097, 4098, 9999, 1 << 32, 1 << 63, top - 1, top} {
		wantSteps(t, each, 0, most, upTo(api.MaxMany, one)...)
	}
	apart := set(row{1, 9, 0, 1, 2}, row{1, long, 0, 1, 1})
	far := upTo(api.MaxMany, func(k uint64) uint64 { return k*uint64(long) + 1 })
	wantSteps(t, apart, 0, top, far...)
	wantSteps(t, apart, 0, far[4095], far...)
	wantSteps(t, apart, 0, far[4095]-1, far[:4095]...)
	late := set(row{1, 9, 0, 1, 2}, row{1, long, long - 1, 1, 1})
	wantSteps(t, late, 0, top, append([]uint64{1, 2}, upTo(api.MaxMany-2, func(k uint64) uint64 { return (k+1)*uint64(long) + 2 })...)...)
	both := set(row{1, 2, 0, 1, 1}, row{1, 3, 0, 1, 2}, row{1, 9, 0, 1, 3}) // 4 steps in 6 ticks
	wantSteps(t, both, 2, top, upTo(api.MaxMany, func(k uint64) uint64 { return k/4*6 + []uint64{1, 3, 4, 5}[k%4] })...)
	great := set(row{long, long, 0, 1, 1}, row{long, long, 0, 1, 2}, row{1, 9, 0, 1, 3})
	wantSteps(t, great, 2, top, far...)
}

// What is told may be left off behind each one, and gone over again, from its beginning, also within itself.
func TestStepsLeftOff(t *testing.T) {
	steps := demand.Steps(mixed(), 0, 40)
	all := slices.Collect(steps)
	if want := modelSteps(mixed(), 0, 40); !slices.Equal(all, want) || len(all) < 9 {
		t.Fatalf("Steps: %d, want %d", all, want)
	}
	for n := range len(all) + 1 {
		var got []uint64
		calls := 0
		steps(func(w uint64) bool {
			calls++
			got = append(got, w)
			return len(got) < n
		})
		if want := all[:max(n, 1)]; !slices.Equal(got, want) || calls != len(want) {
			t.Errorf("Steps, left off behind %d: %d", n, got)
		}
		if again := slices.Collect(steps); !slices.Equal(again, all) {
			t.Errorf("Steps, gone over again: %d, want %d", again, all)
		}
	}
	for range steps {
		if inner := slices.Collect(steps); !slices.Equal(inner, all) {
			t.Fatalf("Steps, gone over within itself: %d, want %d", inner, all)
		}
	}
	many := demand.Steps(set(row{1, 9, 0, 1, 2}, row{1, 1, 0, 1, 1}), 0, top)
	for _, n := range []uint64{1, 2, 4095, 4096} {
		last := uint64(0)
		for w := range many {
			if last = w; w == n {
				break
			}
		}
		if last != n {
			t.Errorf("Steps, left off at %d: %d", n, last)
		}
	}
	if n := len(slices.Collect(many)); n != api.MaxMany {
		t.Errorf("Steps, gone over again: %d of them", n)
	}
}

// What was handed in may be another one, when steps are gone over: it is told as it was.
func TestStepsKeepNothing(t *testing.T) {
	l := mixed()
	want := modelSteps(l, 0, 60)
	steps, none, first := demand.Steps(l, 0, 60), demand.Steps(l, 9, 60), demand.Steps(l, 1, 60)
	for i := range l {
		l[i] = api.Task{Name: "z", C: 1, T: 1, D: 1, Q: 1, P: 8 - i}
	}
	if got := slices.Collect(steps); !slices.Equal(got, want) {
		t.Errorf("Steps of what is changed behind the call: %d, want %d", got, want)
	}
	clear(l)
	if got := slices.Collect(steps); !slices.Equal(got, want) {
		t.Errorf("Steps of what is cleared behind the call: %d, want %d", got, want)
	}
	wrong := mixed()
	wrong[3].C = 0
	nothing := demand.Steps(wrong, 0, 60)
	wrong[3].C = 1
	for _, s := range []iter.Seq[uint64]{none, first, nothing} {
		if got := slices.Collect(s); len(got) != 0 {
			t.Errorf("Steps of nothing: %d", got)
		}
	}
}

// P13.4

// wantRising holds what is told of each place against what is of the ones that are less urgent, and of more ticks.
func wantRising(t *testing.T, l []api.Task, ws []uint64) {
	t.Helper()
	slices.Sort(ws)
	order := task.Order(l)
	for k, w := range ws {
		for n, i := range order {
			work, need := demand.Higher(l, i, w), demand.Need(l, i, w)
			if n > 0 && work < demand.Higher(l, order[n-1], w) {
				t.Fatalf("Higher of %d of %s, in %d: %d, and less than of %d", i, shown(l), w, work, order[n-1])
			}
			if k > 0 && (work < demand.Higher(l, i, ws[k-1]) || need < demand.Need(l, i, ws[k-1])) {
				t.Fatalf("Higher and Need of %d of %s, in %d: %d, %d, and less than in %d", i, shown(l), w, work, need, ws[k-1])
			}
		}
	}
}

func TestMoreNeverNeedsLess(t *testing.T) {
	upTo := make([]uint64, 130)
	for w := range upTo {
		upTo[w] = uint64(w)
	}
	for _, l := range [][]api.Task{example(), mixed()} {
		wantRising(t, l, append(ends(l), upTo...))
	}
	r := rand.New(rand.NewSource(1))
	for range 100 {
		for _, end := range []int64{3, 12, 1000, long} {
			l := drawn(r, 6, end)
			ws := ends(l)
			for range 20 {
				ws = append(ws, r.Uint64()>>r.Intn(64))
			}
			wantRising(t, l, ws)
		}
	}
}

// All of it, against the models

func TestSetsAgainstTheModels(t *testing.T) {
	wantAll(t, example(), 200)
	wantAll(t, mixed(), 300)
	wantAll(t, set(row{long, long, 0, long, api.MaxPrio}), 20)
	wantAll(t, set(row{long, long, 0, long, api.MaxPrio}, row{1, long, long - 1, 1, 1}), 20)
}

// small calls do with each task whose T is at most end, of that P.
func small(end int64, p int64, do func(r row)) {
	for period := int64(1); period <= end; period++ {
		for c := int64(1); c <= period; c++ {
			for j := int64(0); j <= period-c; j++ {
				for q := int64(1); q <= c; q++ {
					do(row{c, period, j, q, p})
				}
			}
		}
	}
}

func TestSmallSetsAgainstTheModels(t *testing.T) {
	small(3, 2, func(a row) {
		small(4, 1, func(b row) {
			wantAll(t, set(a, b), 9)
		})
	})
	small(2, 5, func(a row) {
		small(3, 7, func(b row) {
			small(3, 4, func(c row) {
				wantAll(t, set(a, b, c), 4)
			})
		})
	})
}

func TestDrawnSetsAgainstTheModels(t *testing.T) {
	r := rand.New(rand.NewSource(2))
	for range 60 {
		for _, end := range []int64{2, 5, 20, 300, long} {
			wantAll(t, drawn(r, 6, end), 40)
		}
	}
}

// Where tasks stand is of no account: only their P.
func TestNothingHangsOnWhereTasksStand(t *testing.T) {
	for _, rows := range [][]api.Task{example(), mixed()} {
		perms(rows, func(l []api.Task, at []int) {
			for i := range rows {
				wantBlock(t, l, at[i], modelBlock(rows, i))
				for _, w := range []uint64{0, 1, 3, 4, 5, 9, 10, 13, 50, 1 << 40, top} {
					wantHigher(t, l, at[i], w, modelHigher(rows, i, w))
					wantNeed(t, l, at[i], w, modelNeed(rows, i, w))
				}
				wantSteps(t, l, at[i], 40, modelSteps(rows, i, 40)...)
			}
		})
	}
}

// A set of as many tasks as may be, with the last place that a set of places has.
func TestFullSet(t *testing.T) {
	l := full()
	for _, i := range []int{0, 1, 63, 64, 511, 1022, 1023} {
		wantBlock(t, l, i, modelBlock(l, i))
		for _, w := range []uint64{0, 1, 4990, 4991, 5000, 5001, 123456789, 1 << 62, top} {
			wantWork(t, l, i, w)
		}
	}
	l[1023].Q, l[1023].C, l[1023].P = 2, 2, api.MaxPrio // the last place is behind all others now
	wantBlock(t, l, 1023, 0)
	l[1022].Q, l[1022].C = 2000, 2000
	wantBlock(t, l, 1023, 0)
	wantBlock(t, l, 1022, 1)
	wantBlock(t, l, 0, 1)
	wantHigher(t, l, 0, 1, modelHigher(l, 0, 1))
	wantHigher(t, l, 1023, 1, modelHigher(l, 1023, 1))
	counted := countedSteps(l, 1023, 100000)
	if len(counted) <= api.MaxMany {
		t.Fatalf("too few steps of %s: %d", shown(l), len(counted))
	}
	wantSteps(t, l, 1023, top, counted[:api.MaxMany]...)
	for _, most := range []uint64{0, 1, counted[1] - 1, counted[1], counted[99], counted[4095] - 1, counted[4095], counted[4095] + 1} {
		n, found := slices.BinarySearch(counted[:api.MaxMany], most)
		if found {
			n++
		}
		wantSteps(t, l, 1023, most, counted[:n]...)
	}
}

// Wrong inputs

func TestPlacesThatThereAreNot(t *testing.T) {
	for _, l := range [][]api.Task{example(), mixed(), set(row{3, 9, 6, 3, 1}), full()} {
		for _, i := range []int{-1, -2, len(l), len(l) + 1, 1 << 40, math.MinInt, math.MaxInt} {
			wantNothing(t, l, i)
		}
	}
}

// wrongSets are some that may not be: the good one, in which one task is wrong, by one of its numbers, or its name.
func wrongSets(good []api.Task) [][]api.Task {
	changes := []func(a *api.Task){
		func(a *api.Task) { a.Name = "" },
		func(a *api.Task) { a.Name = "a b" },
		func(a *api.Task) { a.Name = strings.Repeat("n", api.MaxName+1) },
		func(a *api.Task) { a.C = 0 },
		func(a *api.Task) { a.C = math.MinInt64 },
		func(a *api.Task) { a.T = 0 },
		func(a *api.Task) { a.T = -1 },
		func(a *api.Task) { a.T, a.D = long+1, long },
		func(a *api.Task) { a.T = math.MaxInt64 },
		func(a *api.Task) { a.D = 0 },
		func(a *api.Task) { a.D = a.T + 1 },
		func(a *api.Task) { a.D = a.C + a.J - 1 },
		func(a *api.Task) { a.J = -1 },
		func(a *api.Task) { a.J = a.D - a.C + 1 },
		func(a *api.Task) { a.J = math.MaxInt64 },
		func(a *api.Task) { a.Q = 0 },
		func(a *api.Task) { a.Q = a.C + 1 },
		func(a *api.Task) { a.Q = math.MaxInt64 },
		func(a *api.Task) { a.P = 0 },
		func(a *api.Task) { a.P = api.MaxPrio + 1 },
		func(a *api.Task) { a.P = math.MinInt },
	}
	var sets [][]api.Task
	for k := range good {
		for _, change := range changes {
			l := slices.Clone(good)
			change(&l[k])
			sets = append(sets, l)
		}
		for other := range good {
			if other != k {
				names, prios := slices.Clone(good), slices.Clone(good)
				names[k].Name, prios[k].P = names[other].Name, prios[other].P
				sets = append(sets, names, prios)
			}
		}
	}
	return sets
}

func TestSetsThatMayNotBe(t *testing.T) {
	for _, l := range append(wrongSets(example()), wrongSets(mixed())...) {
		if _, e := task.CheckAll(l); e == api.OK {
			t.Fatalf("a wrong set may be: %s", shown(l))
		}
		for i := -1; i <= len(l); i++ {
			wantNothing(t, l, i)
		}
	}
	many := append(full(), api.Task{Name: "more", C: 1, T: 9, D: 9, Q: 1, P: 2000}) // one more than there may be
	for _, l := range [][]api.Task{nil, {}, make([]api.Task, 3), many, slices.Concat(full(), full())} {
		for _, i := range []int{-1, 0, 1, 2, len(l) - 1, len(l), math.MinInt, math.MaxInt} {
			wantNothing(t, l, i)
		}
	}
}

func TestNothingIsKept(t *testing.T) {
	good, wrong := example(), example()
	wrong[2].Q = 4
	for range 3 { // one call's answer is not the next one's
		wantBlock(t, good, 1, 2)
		wantHigher(t, good, 1, 5, 2)
		wantNeed(t, good, 1, 5, 6)
		wantSteps(t, good, 1, 9, 1, 5, 9)
		wantNothing(t, wrong, 1)
		wantNothing(t, nil, 0)
		wantNeed(t, good, 2, 5, 7)
		wantSteps(t, good, 0, 9)
	}
}
