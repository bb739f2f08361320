package stream_test

import (
	"fmt"
	"iter"
	"math"
	"math/rand"
	"slices"
	"testing"

	"cadency/api"
	"cadency/stream"
)

const (
	least = math.MinInt64
	most  = math.MaxInt64
)

// The models: what the chapter's words say, each by looking at all.

// group is what Each tells at once.
type group struct {
	release int64
	places  []int
}

// modelEach looks again and again for the least release above the last one.
func modelEach(jobs []api.Job) []group {
	var l []group
	for {
		var g group
		found := false
		for _, j := range jobs {
			if len(l) > 0 && j.Release <= l[len(l)-1].release {
				continue
			}
			if !found || j.Release < g.release {
				g.release, found = j.Release, true
			}
		}
		if !found {
			return l
		}
		for i, j := range jobs {
			if j.Release == g.release {
				g.places = append(g.places, i)
			}
		}
		l = append(l, g)
	}
}

func modelOrder(jobs []api.Job) []int {
	var l []int
	for _, g := range modelEach(jobs) {
		l = append(l, g.places...)
	}
	return l
}

func modelOf(jobs []api.Job, task int) []int {
	var l []int
	for i := range jobs {
		if jobs[i].Task == task {
			l = append(l, i)
		}
	}
	return l
}

func modelNext(jobs []api.Job, t int64) (int64, bool) {
	for _, g := range modelEach(jobs) {
		if g.release > t {
			return g.release, true
		}
	}
	return 0, false
}

// modelMerge tells false where, at some time, of all things that are first of a row each has one that is less.
func modelMerge[T any](less func(a, b T) bool, rows [][]T) ([]T, bool) {
	var l []T
	at := make([]int, len(rows))
	left := 0
	for _, row := range rows {
		left += len(row)
	}
	for len(l) < left {
		next := -1
		for i := len(rows) - 1; i >= 0; i-- {
			if at[i] < len(rows[i]) && noneIsLess(less, rows, at, i) {
				next = i
			}
		}
		if next < 0 {
			return nil, false
		}
		l = append(l, rows[next][at[next]])
		at[next]++
	}
	return l, true
}

func noneIsLess[T any](less func(a, b T) bool, rows [][]T, at []int, row int) bool {
	for i := range rows {
		if i != row && at[i] < len(rows[i]) && less(rows[i][at[i]], rows[row][at[row]]) {
			return false
		}
	}
	return true
}

// Jobs, and what is asked of them.

// at are jobs of those releases; all else of them goes the other way, so that nothing else can be what they are told by.
func at(releases ...int64) []api.Job {
	var l []api.Job
	for i, release := range releases {
		l = append(l, api.Job{Task: i % 2, Arrive: -release, Release: release, Work: int64(len(releases) - i), Cuts: []int64{int64(-i)}})
	}
	return l
}

// of are jobs of those tasks.
func of(tasks ...int) []api.Job {
	l := at(make([]int64, len(tasks))...)
	for i, task := range tasks {
		l[i].Task = task
	}
	return l
}

// copyOf shares nothing with what it copies.
func copyOf(jobs []api.Job) []api.Job {
	l := slices.Clone(jobs)
	for i := range l {
		l[i].Cuts = slices.Clone(l[i].Cuts)
	}
	return l
}

func sameJob(a, b api.Job) bool {
	return a.Task == b.Task && a.Arrive == b.Arrive && a.Release == b.Release && a.Work == b.Work && slices.Equal(a.Cuts, b.Cuts)
}

func sameGroup(a, b group) bool {
	return a.release == b.release && slices.Equal(a.places, b.places)
}

// groups are what a sequence tells, up to as many; all of it, if stop is below 0.
func groups(seq iter.Seq2[int64, []int], stop int) []group {
	var l []group
	for release, places := range seq {
		l = append(l, group{release, places})
		if len(l) == stop {
			break
		}
	}
	return l
}

// shown is what %v tells of something, with no more of it than is of use.
func shown(x any) string {
	s := fmt.Sprintf("%v", x)
	if len(s) > 300 {
		return fmt.Sprintf("%s.. (%d bytes)", s[:300], len(s))
	}
	return s
}

func wantRow[T comparable](t *testing.T, what string, got []T, wanted ...T) {
	t.Helper()
	if !slices.Equal(got, wanted) {
		t.Errorf("%s: %s, want %s", what, shown(got), shown(wanted))
	}
}

func wantOrder(t *testing.T, jobs []api.Job, wanted ...int) {
	t.Helper()
	wantRow(t, fmt.Sprint("Order of ", shown(jobs)), stream.Order(jobs), wanted...)
}

func wantOf(t *testing.T, jobs []api.Job, task int, wanted ...int) {
	t.Helper()
	wantRow(t, fmt.Sprintf("Of task %d of %s", task, shown(jobs)), stream.Of(jobs, task), wanted...)
}

func wantNext(t *testing.T, jobs []api.Job, now int64, wanted int64, ok bool) {
	t.Helper()
	if got, gotOK := stream.Next(jobs, now); got != wanted || gotOK != ok {
		t.Errorf("Next(%d) of %s: %d %v, want %d %v", now, shown(jobs), got, gotOK, wanted, ok)
	}
}

func wantGroups(t *testing.T, what string, got []group, wanted ...group) {
	t.Helper()
	if !slices.EqualFunc(got, wanted, sameGroup) {
		t.Errorf("%s: %s, want %s", what, shown(got), shown(wanted))
	}
}

// wantEach asks for all that Each tells: at once, twice, and left off behind each release.
func wantEach(t *testing.T, jobs []api.Job, wanted ...group) {
	t.Helper()
	what := fmt.Sprint("Each of ", shown(jobs))
	seq := stream.Each(jobs)
	if seq == nil {
		t.Fatalf("%s: nil", what)
	}
	wantGroups(t, what, groups(seq, -1), wanted...)
	for stop := 1; stop <= len(wanted); stop++ {
		wantGroups(t, fmt.Sprint(what, ", left off behind ", stop), groups(seq, stop), wanted[:stop]...)
	}
	wantGroups(t, what+", again", groups(seq, -1), wanted...)
}

// nearby are numbers at which something could change: each release, those beside it, and the ends.
func nearby(jobs []api.Job) []int64 {
	l := []int64{least, least + 1, -1, 0, 1, most - 1, most}
	for _, j := range jobs {
		l = append(l, j.Release)
		if j.Release > least {
			l = append(l, j.Release-1)
		}
		if j.Release < most {
			l = append(l, j.Release+1)
		}
	}
	return l
}

// wantJobs asks all calls for what their models tell, that what follows of one is told by another, and that what is handed in stays as it is.
func wantJobs(t *testing.T, jobs []api.Job) {
	t.Helper()
	before := copyOf(jobs)
	wantOrder(t, jobs, modelOrder(before)...)
	wantEach(t, jobs, modelEach(before)...)
	tasks := []int{math.MinInt, -1, 0, 1, 2, math.MaxInt}
	for _, j := range jobs {
		tasks = append(tasks, j.Task)
	}
	for _, task := range tasks {
		wantOf(t, jobs, task, modelOf(before, task)...)
	}
	for _, now := range nearby(jobs) {
		release, ok := modelNext(before, now)
		wantNext(t, jobs, now, release, ok)
	}
	wantSteps(t, jobs)
	if !slices.EqualFunc(before, jobs, sameJob) {
		t.Errorf("%s: what was handed in is changed, to %s", shown(before), shown(jobs))
	}
}

// wantSteps asks that Next, from one to the next, goes through just those releases that Each tells (above the least number that there is).
func wantSteps(t *testing.T, jobs []api.Job) {
	t.Helper()
	var byEach, byNext []int64
	for release := range stream.Each(jobs) {
		if release > least {
			byEach = append(byEach, release)
		}
	}
	for release, ok := stream.Next(jobs, least); ok && len(byNext) <= len(jobs); release, ok = stream.Next(jobs, release) {
		byNext = append(byNext, release)
	}
	wantRow(t, fmt.Sprint("by Next, of ", shown(jobs)), byNext, byEach...)
}

// P9.1

func TestSomeJobs(t *testing.T) {
	jobs := []api.Job{{Task: 1, Release: 7}, {Task: 0, Release: 3}, {Task: 1, Release: 3}, {Task: 0, Release: 9}}
	wantOrder(t, jobs, 1, 2, 0, 3)
	wantEach(t, jobs, group{3, []int{1, 2}}, group{7, []int{0}}, group{9, []int{3}})
	wantOf(t, jobs, 1, 0, 2)
	wantOf(t, jobs, 0, 1, 3)
	wantNext(t, jobs, 3, 7, true)
	wantNext(t, jobs, 9, 0, false)
	wantJobs(t, jobs)
}

func TestNoJobs(t *testing.T) {
	for _, jobs := range [][]api.Job{nil, {}, at(5, 6)[:0]} {
		wantOrder(t, jobs)
		wantEach(t, jobs)
		for _, task := range []int{0, 1, -1, math.MinInt, math.MaxInt} {
			wantOf(t, jobs, task)
		}
		for _, now := range nearby(nil) {
			wantNext(t, jobs, now, 0, false)
		}
	}
}

func TestOneJob(t *testing.T) {
	for _, release := range []int64{0, 1, 7, -1, -7, least, least + 1, most, most - 1, 1 << 32, -1 << 32} {
		jobs := at(release)
		wantOrder(t, jobs, 0)
		wantEach(t, jobs, group{release, []int{0}})
		wantOf(t, jobs, 0, 0)
		wantOf(t, jobs, 1)
		wantNext(t, jobs, least, wantedIf(release > least, release), release > least)
		wantNext(t, jobs, release, 0, false)
		wantNext(t, jobs, most, 0, false)
		wantJobs(t, jobs)
	}
}

// wantedIf is n, or 0.
func wantedIf(so bool, n int64) int64 {
	if so {
		return n
	}
	return 0
}

func TestAllOfOneRelease(t *testing.T) {
	for _, release := range []int64{0, 4, -4, least, most} {
		for n := 1; n < 40; n++ {
			var places []int
			for i := range n {
				places = append(places, i)
			}
			jobs := at(slices.Repeat([]int64{release}, n)...)
			wantOrder(t, jobs, places...)
			wantEach(t, jobs, group{release, places})
			wantJobs(t, jobs)
		}
	}
}

func TestRisingAndFalling(t *testing.T) {
	wantOrder(t, at(1, 2, 3, 4), 0, 1, 2, 3)
	wantOrder(t, at(4, 3, 2, 1), 3, 2, 1, 0)
	wantOrder(t, at(-4, -3, -2, -1), 0, 1, 2, 3)
	wantOrder(t, at(-1, -2, -3, -4), 3, 2, 1, 0)
	wantEach(t, at(4, 3, 2), group{2, []int{2}}, group{3, []int{1}}, group{4, []int{0}})
	for n := range 60 {
		var rising, falling, stairs, mixed []int64
		for i := range n {
			rising = append(rising, int64(i))
			falling = append(falling, int64(-i))
			stairs = append(stairs, int64(-i/3))
			mixed = append(mixed, int64(i*i%7)-3)
		}
		for _, releases := range [][]int64{rising, falling, stairs, mixed} {
			wantJobs(t, at(releases...))
		}
	}
}

func TestAlikeByPlaces(t *testing.T) {
	jobs := at(5, 2, 5, 2, 5, 9, 2)
	wantOrder(t, jobs, 1, 3, 6, 0, 2, 4, 5)
	wantEach(t, jobs, group{2, []int{1, 3, 6}}, group{5, []int{0, 2, 4}}, group{9, []int{5}})
	wantJobs(t, jobs)
}

// Releases as far apart as may be, so that how much one is above another one goes round.
func TestEnds(t *testing.T) {
	jobs := at(most, 0, least, -1, 1, most, least)
	wantOrder(t, jobs, 2, 6, 3, 1, 4, 0, 5)
	wantEach(t, jobs, group{least, []int{2, 6}}, group{-1, []int{3}}, group{0, []int{1}}, group{1, []int{4}}, group{most, []int{0, 5}})
	wantJobs(t, jobs)
	wantOrder(t, at(1, least), 1, 0)
	wantOrder(t, at(most, -2), 1, 0)
	wantJobs(t, at(least, least+1, most-1, most, 1<<31, -1<<31, 1<<32, -1<<32, 1<<63-1, -1<<63))
}

// Of a set, or of what is legal, nothing is asked: all that counts is Release, and in Of the Task.
func TestJobsThatMayNotBe(t *testing.T) {
	jobs := []api.Job{
		{Task: -5, Arrive: 9, Release: 3, Work: -1},
		{Task: math.MaxInt, Arrive: most, Release: -3, Work: 0, Cuts: []int64{-1, 0, most}},
		{Task: math.MinInt, Arrive: least, Release: 3, Work: most},
	}
	wantOrder(t, jobs, 1, 0, 2)
	wantEach(t, jobs, group{-3, []int{1}}, group{3, []int{0, 2}})
	wantOf(t, jobs, -5, 0)
	wantOf(t, jobs, math.MaxInt, 1)
	wantOf(t, jobs, math.MinInt, 2)
	wantJobs(t, jobs)
}

func TestOf(t *testing.T) {
	jobs := of(3, 1, 3, -2, 3, 0, 1, -2)
	wantOf(t, jobs, 3, 0, 2, 4)
	wantOf(t, jobs, 1, 1, 6)
	wantOf(t, jobs, 0, 5)
	wantOf(t, jobs, -2, 3, 7)
	for _, none := range []int{2, 4, -1, -3, 100, math.MinInt, math.MaxInt, 1<<32 + 1, 1<<32 + 3} {
		wantOf(t, jobs, none)
	}
	wantOf(t, of(7, 7, 7), 7, 0, 1, 2)
	wantOf(t, of(7, 7, 7), 6)
	wantJobs(t, jobs)
}

// By places, however they are released.
func TestOfIsByPlaces(t *testing.T) {
	jobs := at(9, 5, 3, 5, 1)
	wantOf(t, jobs, 0, 0, 2, 4)
	wantOf(t, jobs, 1, 1, 3)
}

func TestNext(t *testing.T) {
	jobs := at(8, -4, 3, 8, -4)
	for now, wanted := range map[int64]int64{least: -4, -100: -4, -5: -4, -4: 3, -3: 3, 0: 3, 2: 3, 3: 8, 4: 8, 7: 8} {
		wantNext(t, jobs, now, wanted, true)
	}
	for _, now := range []int64{8, 9, 100, most - 1, most} {
		wantNext(t, jobs, now, 0, false)
	}
}

// A release that is 0 is one, as is one that is greatest, or least.
func TestNextAtEnds(t *testing.T) {
	wantNext(t, at(0, 0), -1, 0, true)
	wantNext(t, at(0, 0), 0, 0, false)
	wantNext(t, at(0, 5), -1, 0, true)
	wantNext(t, at(5, 0), -1, 0, true)
	wantNext(t, at(most), most-1, most, true)
	wantNext(t, at(most, least), least, most, true)
	wantNext(t, at(most, least), most, 0, false)
	wantNext(t, at(least), least, 0, false)
	wantNext(t, at(least+1, least), least, least+1, true)
	wantNext(t, at(-3, -2, -1), -4, -3, true)
	wantNext(t, at(-1, -2, -3), -2, -1, true)
}

// All rows of up to six jobs of few releases, each of few tasks.
func TestAllShortRowsOfJobs(t *testing.T) {
	releases := []int64{least, -1, 0, most}
	var rows func(jobs []api.Job)
	rows = func(jobs []api.Job) {
		wantJobs(t, jobs)
		if len(jobs) == 6 || t.Failed() {
			return
		}
		for i, release := range releases {
			rows(append(slices.Clone(jobs), api.Job{Task: (len(jobs) + i) % 3, Arrive: -release, Release: release}))
		}
	}
	rows(nil)
}

func TestDrawnJobs(t *testing.T) {
	draw := rand.New(rand.NewSource(9))
	for range 300 {
		few := 1 + draw.Intn(30)
		jobs := make([]api.Job, draw.Intn(60))
		for i := range jobs {
			jobs[i] = api.Job{Task: draw.Intn(5) - 2, Arrive: draw.Int63(), Release: int64(draw.Intn(few) - few/2), Work: draw.Int63(), Cuts: []int64{draw.Int63()}}
			if draw.Intn(10) == 0 {
				jobs[i].Release = int64(draw.Uint64())
			}
		}
		wantJobs(t, jobs)
		if t.Failed() {
			t.FailNow()
		}
	}
}

// Many jobs, whose releases rise, fall, are drawn, few, and all alike.
func TestManyJobs(t *testing.T) {
	const many = 300000
	draw := rand.New(rand.NewSource(91))
	for what, release := range map[string]func(i int) int64{
		"rising":  func(i int) int64 { return int64(i) },
		"falling": func(i int) int64 { return int64(-i) },
		"drawn":   func(int) int64 { return int64(draw.Uint64()) },
		"few":     func(int) int64 { return int64(draw.Intn(5)) },
		"alike":   func(int) int64 { return 1 },
		"saw":     func(i int) int64 { return int64(i % 1000) },
	} {
		jobs := make([]api.Job, many)
		for i := range jobs {
			jobs[i] = api.Job{Task: i % 7, Release: release(i)}
		}
		order := stream.Order(jobs)
		for i := 1; i < many; i++ {
			a, b := order[i-1], order[i]
			if jobs[a].Release > jobs[b].Release || jobs[a].Release == jobs[b].Release && a >= b {
				t.Fatalf("%s: %d stands ahead of %d", what, a, b)
			}
		}
		var byEach []int
		for r, places := range stream.Each(jobs) {
			if len(places) == 0 || jobs[places[0]].Release != r {
				t.Fatalf("%s: Each tells %d with %s", what, r, shown(places))
			}
			byEach = append(byEach, places...)
		}
		wantRow(t, what+": Each", byEach, order...)
		if len(order) != many || len(stream.Of(jobs, 0)) != (many+6)/7 {
			t.Errorf("%s: %d in order, %d of task 0", what, len(order), len(stream.Of(jobs, 0)))
		}
	}
}

func TestEachNotGoneOver(t *testing.T) {
	seq := stream.Each(at(2, 1))
	told := 0
	seq(func(release int64, places []int) bool {
		told++
		return false
	})
	if told != 1 {
		t.Errorf("left off behind the first, %d are told", told)
	}
	wantGroups(t, "behind it", groups(seq, -1), group{1, []int{1}}, group{2, []int{0}})
}

func TestEachWithinEach(t *testing.T) {
	seq := stream.Each(at(3, 1, 3, 2))
	wanted := []group{{1, []int{1}}, {2, []int{3}}, {3, []int{0, 2}}}
	var outer []group
	for release, places := range seq {
		wantGroups(t, "inner, left off", groups(seq, len(outer)+1), wanted[:len(outer)+1]...)
		outer = append(outer, group{release, places})
		wantGroups(t, "inner", groups(seq, -1), wanted...)
	}
	wantGroups(t, "outer", outer, wanted...)
}

// What is told is the caller's: what it does with it is seen nowhere.
func TestWhatIsToldOfJobsIsTheCallers(t *testing.T) {
	jobs := at(3, 1, 3, 1, 2)
	before := copyOf(jobs)
	wanted := []group{{1, []int{1, 3}}, {2, []int{4}}, {3, []int{0, 2}}}
	seq := stream.Each(jobs)
	var got []group
	for release, places := range seq {
		got = append(got, group{release, slices.Clone(places)})
		for i := range places {
			places[i] = 100 + i
		}
		wide := places[:cap(places)]
		for i := range wide {
			wide[i] = 200 + i
		}
		_ = append(places, 300, 301, 302)
	}
	wantGroups(t, "changed as it is told", got, wanted...)
	wantGroups(t, "gone over again", groups(seq, -1), wanted...)
	kept := groups(seq, -1)
	for _, g := range kept[0].places[:cap(kept[0].places)] {
		kept[0].places[0] += g
	}
	wantGroups(t, "one changed", kept[1:], wanted[1:]...)
	order := stream.Order(jobs)
	wantOrder(t, jobs, 1, 3, 4, 0, 2)
	clear(order[:cap(order)])
	wantOrder(t, jobs, 1, 3, 4, 0, 2)
	some := stream.Of(jobs, 0)
	clear(some[:cap(some)])
	wantOf(t, jobs, 0, 0, 2, 4)
	if !slices.EqualFunc(before, jobs, sameJob) {
		t.Errorf("what was handed in is changed, to %s", shown(jobs))
	}
}

// What is handed in is not kept: changed since, or as it is gone over, it is told as it was.
func TestJobsChangedLaterAreNotSeen(t *testing.T) {
	jobs := at(3, 1, 3)
	wanted := []group{{1, []int{1}}, {3, []int{0, 2}}}
	seq, order, some := stream.Each(jobs), stream.Order(jobs), stream.Of(jobs, 0)
	jobs[0] = api.Job{Task: 5, Release: -9}
	wantGroups(t, "changed since", groups(seq, -1), wanted...)
	var got []group
	for release, places := range seq {
		got = append(got, group{release, places})
		for i := range jobs {
			jobs[i] = api.Job{Task: 6, Release: 50}
		}
	}
	wantGroups(t, "changed as it is gone over", got, wanted...)
	clear(jobs)
	wantGroups(t, "cleared", groups(seq, -1), wanted...)
	wantRow(t, "Order", order, 1, 0, 2)
	wantRow(t, "Of", some, 0, 2)
}

// A row that is cut tells nothing of what stands behind it.
func TestJobsBehindACutRow(t *testing.T) {
	whole := at(4, 2, 1, 0)
	wantOrder(t, whole[:2], 1, 0)
	wantEach(t, whole[:2], group{2, []int{1}}, group{4, []int{0}})
	wantOf(t, whole[:2], 0, 0)
	wantNext(t, whole[:2], 0, 2, true)
	wantJobs(t, whole[1:3])
}

// P9.2 and P9.3

// item is a thing that is told apart from those that are alike by key.
type item struct {
	key  int
	name string
}

func byKey(a, b item) bool     { return a.key < b.key }
func byKeyDown(a, b item) bool { return a.key > b.key }
func rising(a, b int) bool     { return a < b }
func falling(a, b int) bool    { return a > b }

func neverLess[T any](a, b T) bool { return false }

// named are items of those keys, that tell which row they are of, and where they stand in it.
func named(row int, keys ...int) []item {
	var l []item
	for i, key := range keys {
		l = append(l, item{key, fmt.Sprintf("%c%d", 'a'+row, i)})
	}
	return l
}

// told is what a sequence tells, up to as many; all of it, if stop is below 0.
func told[T any](seq iter.Seq[T], stop int) []T {
	var l []T
	for x := range seq {
		l = append(l, x)
		if len(l) == stop {
			break
		}
	}
	return l
}

// wantMerge asks for all that Merge tells: at once, left off behind each thing, and again; and that what is handed in stays as it is.
func wantMerge[T comparable](t *testing.T, what string, less func(a, b T) bool, rows [][]T, wanted ...T) {
	t.Helper()
	before := copyOfRows(rows)
	what = fmt.Sprintf("%s: Merge of %s", what, shown(rows))
	seq := stream.Merge(less, rows...)
	if seq == nil {
		t.Fatalf("%s: nil", what)
	}
	wantRow(t, what, told(seq, -1), wanted...)
	for stop := 1; stop <= min(len(wanted), 12); stop++ {
		wantRow(t, fmt.Sprint(what, ", left off behind ", stop), told(seq, stop), wanted[:stop]...)
	}
	wantRow(t, what+", again", told(seq, -1), wanted...)
	if !slices.EqualFunc(before, rows, slices.Equal) {
		t.Errorf("%s: what was handed in is changed, to %s", what, shown(rows))
	}
}

// copyOfRows shares nothing with what it copies.
func copyOfRows[T any](rows [][]T) [][]T {
	l := slices.Clone(rows)
	for i := range l {
		l[i] = slices.Clone(l[i])
	}
	return l
}

// wantLike asks for what the model tells.
func wantLike[T comparable](t *testing.T, what string, less func(a, b T) bool, rows [][]T) {
	t.Helper()
	wanted, ok := modelMerge(less, copyOfRows(rows))
	if !ok {
		t.Fatalf("%s: the model knows nothing of %s", what, shown(rows))
	}
	wantMerge(t, what, less, rows, wanted...)
}

func TestChapterExample(t *testing.T) {
	var l []int
	for n := range stream.Merge(rising, []int{1, 4}, []int{2, 3}) {
		l = append(l, n)
	}
	wantRow(t, "example", l, 1, 2, 3, 4)
}

func TestMergeOfNothing(t *testing.T) {
	if stream.Merge(rising) == nil {
		t.Error("Merge of no rows is nil")
	}
	wantRow(t, "no rows", told(stream.Merge(rising), -1))
	for what, rows := range map[string][][]int{
		"nil":              nil,
		"none":             {},
		"one nil":          {nil},
		"one empty":        {{}},
		"nil and empty":    {nil, {}, nil, {}},
		"nothing but cuts": {[]int{1, 2}[:0], []int{3}[:0]},
	} {
		wantMerge(t, what, rising, rows)
	}
	wantMerge(t, "texts", neverLess[string], nil)
}

// Whatever less is, one row is told as it stands.
func TestMergeOfOneRow(t *testing.T) {
	for _, row := range [][]int{{7}, {0}, {1, 2, 3}, {3, 2, 1}, {2, 2, 2}, {5, 1, 4, 1, 0, 9}} {
		wantMerge(t, "alone", rising, [][]int{row}, row...)
		wantMerge(t, "falling", falling, [][]int{row}, row...)
		wantMerge(t, "behind nil", rising, [][]int{nil, row}, row...)
		wantMerge(t, "ahead of empty ones", rising, [][]int{row, {}, nil}, row...)
	}
}

func TestMergeWithEmptyRows(t *testing.T) {
	wantMerge(t, "some", rising, [][]int{nil, {1, 4}, {}, {2, 3}, nil}, 1, 2, 3, 4)
	wantMerge(t, "some", rising, [][]int{{2, 3}, nil, nil, {1, 4}}, 1, 2, 3, 4)
	wantMerge(t, "of alike things", byKey, [][]item{nil, named(0, 1, 1), {}, named(1, 1)}, item{1, "a0"}, item{1, "a1"}, item{1, "b0"})
}

func TestMergeOfRowsInOrder(t *testing.T) {
	wantMerge(t, "one behind the other", rising, [][]int{{1, 2}, {3, 4}}, 1, 2, 3, 4)
	wantMerge(t, "one ahead of the other", rising, [][]int{{3, 4}, {1, 2}}, 1, 2, 3, 4)
	wantMerge(t, "one within the other", rising, [][]int{{1, 9}, {2, 3, 4}}, 1, 2, 3, 4, 9)
	wantMerge(t, "three", rising, [][]int{{1, 4, 7}, {2, 5, 8}, {0, 3, 6}}, 0, 1, 2, 3, 4, 5, 6, 7, 8)
	wantMerge(t, "falling", falling, [][]int{{7, 4, 1}, {8, 5, 2}, {6, 3, 0}}, 8, 7, 6, 5, 4, 3, 2, 1, 0)
	wantMerge(t, "ends", rising, [][]int{{math.MinInt, 0, math.MaxInt}, {math.MinInt + 1, math.MaxInt}}, math.MinInt, math.MinInt+1, 0, math.MaxInt, math.MaxInt)
}

// Only what is first of each row is looked at.
func TestMergeOfRowsThatAreNotInOrder(t *testing.T) {
	wantMerge(t, "the less hides", rising, [][]int{{5, 1}, {2}}, 2, 5, 1)
	wantMerge(t, "both hide it", rising, [][]int{{5, 1}, {4, 0}}, 4, 0, 5, 1)
	wantMerge(t, "falling rows", rising, [][]int{{3, 2, 1}, {6, 5, 4}, {9, 8, 7}}, 3, 2, 1, 6, 5, 4, 9, 8, 7)
	wantMerge(t, "mixed", rising, [][]int{{2, 9, 1, 3}, {5, 4}, {7, 0}}, 2, 5, 4, 7, 0, 9, 1, 3)
}

func TestMergeOfAlikeThings(t *testing.T) {
	rows := [][]item{named(0, 2, 2), named(1, 1, 2, 3), named(2, 2, 3)}
	wantMerge(t, "alike", byKey, rows, item{1, "b0"}, item{2, "a0"}, item{2, "a1"}, item{2, "b1"}, item{2, "c0"}, item{3, "b2"}, item{3, "c1"})
	wantMerge(t, "all alike", byKey, [][]item{named(0, 1, 1), named(1, 1, 1), named(2, 1)}, item{1, "a0"}, item{1, "a1"}, item{1, "b0"}, item{1, "b1"}, item{1, "c0"})
	wantMerge(t, "never less", neverLess[item], [][]item{named(0, 5, 1), named(1, 4), named(2, 0, 9)}, item{5, "a0"}, item{1, "a1"}, item{4, "b0"}, item{0, "c0"}, item{9, "c1"})
	wantMerge(t, "alike, and not in order", byKey, [][]item{named(0, 2, 1), named(1, 2, 0, 2), named(2, 1, 2)},
		item{1, "c0"}, item{2, "a0"}, item{1, "a1"}, item{2, "b0"}, item{0, "b1"}, item{2, "b2"}, item{2, "c1"})
	wantMerge(t, "by letters", func(a, b string) bool { return a[0] < b[0] }, [][]string{{"b1", "c1"}, nil, {"a3", "b3", "a9"}}, "a3", "b1", "b3", "a9", "c1")
}

// The same row, handed in twice, is two rows.
func TestMergeOfOneRowTwice(t *testing.T) {
	row := []int{1, 3, 2}
	wantMerge(t, "twice", rising, [][]int{row, row}, 1, 1, 3, 2, 3, 2)
	wantMerge(t, "cut", rising, [][]int{row[:2], row[1:]}, 1, 3, 3, 2)
}

// What is neither less nor alike: one that none of the others is less than is told, the one of the first row, whatever else is less than something.
func TestMergeByWhatOrdersInPart(t *testing.T) {
	below := func(a, b [2]int) bool { return a[0] < b[0] && a[1] < b[1] }
	a, b, c := [2]int{2, 2}, [2]int{0, 9}, [2]int{1, 1}
	wantMerge(t, "in part", below, [][][2]int{{a}, {b}, {c}}, b, c, a)
	wantMerge(t, "in part", below, [][][2]int{{a}, {c}, {b}}, c, a, b)
	wantMerge(t, "in part", below, [][][2]int{{b}, {a}, {c}}, b, c, a)
	divides := func(a, b int) bool { return a < b && b%a == 0 }
	wantMerge(t, "by what divides", divides, [][]int{{12, 6}, {5, 8}, {9, 2}, {3, 4}}, 5, 8, 3, 9, 2, 4, 12, 6)
	draw := rand.New(rand.NewSource(93))
	for range 2000 {
		pairs := make([][][2]int, draw.Intn(6))
		numbers := make([][]int, draw.Intn(6))
		for i := range pairs {
			for range draw.Intn(5) {
				pairs[i] = append(pairs[i], [2]int{draw.Intn(4), draw.Intn(4)})
			}
		}
		for i := range numbers {
			for range draw.Intn(5) {
				numbers[i] = append(numbers[i], 1+draw.Intn(12))
			}
		}
		wantLike(t, "in part", below, pairs)
		wantLike(t, "by what divides", divides, numbers)
		if t.Failed() {
			t.FailNow()
		}
	}
}

// Less that does not go on still says of each two which is less: where there is one that none of the others is less than, it is told.
func TestMergeByWhatDoesNotGoOn(t *testing.T) {
	beats := func(a, b int) bool { return (a-b+5)%5 == 1 } // each number is less than the one behind it alone, in a round of five
	draw := rand.New(rand.NewSource(94))
	for range 3000 {
		rows := make([][]int, draw.Intn(6))
		for i := range rows {
			for range draw.Intn(4) {
				rows[i] = append(rows[i], draw.Intn(5))
			}
		}
		if wanted, ok := modelMerge(beats, rows); ok {
			wantMerge(t, "round", beats, rows, wanted...)
		}
		if t.Failed() {
			t.FailNow()
		}
	}
}

// What orders nothing still lets each thing be told once, each row's as they stood.
func TestMergeByWhatIsNoOrder(t *testing.T) {
	draw := rand.New(rand.NewSource(95))
	for what, less := range map[string]func(a, b item) bool{
		"both ways":  func(a, b item) bool { return true },
		"not less":   func(a, b item) bool { return a.key <= b.key },
		"goes round": func(a, b item) bool { return (b.key-a.key+3)%3 == 1 },
		"drawn":      func(a, b item) bool { return draw.Intn(2) == 0 },
	} {
		for range 200 {
			rows := make([][]item, draw.Intn(6))
			all := 0
			for i := range rows {
				keys := make([]int, draw.Intn(5))
				for k := range keys {
					keys[k] = draw.Intn(3)
				}
				rows[i] = named(i, keys...)
				all += len(keys)
			}
			got := told(stream.Merge(less, rows...), -1)
			if len(got) != all {
				t.Fatalf("%s: %d of %d are told", what, len(got), all)
			}
			for i, row := range rows {
				var its []item
				for _, x := range got {
					if x.name[0] == byte('a'+i) {
						its = append(its, x)
					}
				}
				wantRow(t, what, its, row...)
			}
		}
	}
}

// All rows of up to three of few numbers, up to three of them.
func TestAllShortRowsLikeModel(t *testing.T) {
	short := [][]int{nil}
	for i := 0; i < len(short); i++ {
		if len(short[i]) < 3 {
			for n := range 3 {
				short = append(short, append(slices.Clone(short[i]), n))
			}
		}
	}
	for _, a := range short {
		wantLike(t, "one", byKey, [][]item{named(0, a...)})
		for _, b := range short {
			wantLike(t, "two", byKey, [][]item{named(0, a...), named(1, b...)})
			for _, c := range short {
				if len(a)+len(b)+len(c) <= 7 {
					wantLike(t, "three", byKey, [][]item{named(0, a...), named(1, b...), named(2, c...)})
				}
			}
		}
		if t.Failed() {
			t.FailNow()
		}
	}
}

func TestDrawnRowsLikeModel(t *testing.T) {
	draw := rand.New(rand.NewSource(96))
	for range 400 {
		few := 1 + draw.Intn(20)
		rows := make([][]item, draw.Intn(12))
		for i := range rows {
			keys := make([]int, draw.Intn(12))
			for k := range keys {
				keys[k] = draw.Intn(few) - few/2
			}
			if draw.Intn(2) == 0 {
				slices.Sort(keys)
			}
			rows[i] = named(i, keys...)
		}
		wantLike(t, "rising", byKey, rows)
		wantLike(t, "falling", byKeyDown, rows)
		wantLike(t, "never less", neverLess[item], rows)
		if t.Failed() {
			t.FailNow()
		}
	}
}

// P9.3: rows in order are merged as one row of all of them, which is put in order so that what is alike stays as it stood.
func TestRowsInOrderAreMergedIntoOne(t *testing.T) {
	draw := rand.New(rand.NewSource(97))
	for range 400 {
		few := 1 + draw.Intn(20)
		for _, less := range []func(a, b item) bool{byKey, byKeyDown} {
			compare := func(a, b item) int {
				switch {
				case less(a, b):
					return -1
				case less(b, a):
					return 1
				}
				return 0
			}
			rows := make([][]item, draw.Intn(12))
			for i := range rows {
				keys := make([]int, draw.Intn(12))
				for k := range keys {
					keys[k] = draw.Intn(few)
				}
				rows[i] = named(i, keys...)
				slices.SortStableFunc(rows[i], compare)
			}
			all := slices.Concat(rows...)
			slices.SortStableFunc(all, compare)
			wantMerge(t, "in order", less, rows, all...)
		}
		if t.Failed() {
			t.FailNow()
		}
	}
}

// Jobs of several tasks, each by its releases, are merged into what Order tells.
func TestJobsOfTasksAreMerged(t *testing.T) {
	draw := rand.New(rand.NewSource(98))
	for range 100 {
		jobs := make([]api.Job, draw.Intn(40))
		for i := range jobs {
			jobs[i] = api.Job{Task: draw.Intn(4), Release: int64(draw.Intn(15))}
		}
		var rows [][]int
		for task := range 4 {
			row := stream.Of(jobs, task)
			slices.SortStableFunc(row, func(a, b int) int { return int(jobs[a].Release - jobs[b].Release) })
			rows = append(rows, row)
		}
		less := func(a, b int) bool {
			return jobs[a].Release < jobs[b].Release || jobs[a].Release == jobs[b].Release && a < b
		}
		wantMerge(t, "by releases", less, rows, stream.Order(jobs)...)
	}
}

func TestMergeOfSeveralTypes(t *testing.T) {
	wantMerge(t, "texts", func(a, b string) bool { return a < b }, [][]string{{"", "a\xff", "b"}, {"B", "a"}}, "", "B", "a", "a\xff", "b")
	wantMerge(t, "texts by length", func(a, b string) bool { return len(a) < len(b) }, [][]string{{"bb", "ccc"}, {"a", "dd"}}, "a", "bb", "dd", "ccc")
	wantMerge(t, "floats", func(a, b float64) bool { return a < b }, [][]float64{{math.Inf(-1), 2.5}, {-1, math.Inf(1)}}, math.Inf(-1), -1, 2.5, math.Inf(1))
	wantMerge(t, "bytes", func(a, b uint8) bool { return a < b }, [][]uint8{{0, 255}, {128}}, 0, 128, 255)
	wantMerge(t, "bools", func(a, b bool) bool { return !a && b }, [][]bool{{true}, {false, true}}, false, true, true)
	wantMerge(t, "empty structs", neverLess[struct{}], [][]struct{}{{{}}, {{}, {}}}, struct{}{}, struct{}{}, struct{}{})
	wantMerge(t, "of any type", func(a, b any) bool { return fmt.Sprint(a) < fmt.Sprint(b) }, [][]any{{"b", nil}, {1, "a"}}, any(1), any("a"), any("b"), any(nil))
	wantMerge(t, "zero things", byKey, [][]item{{{}, {}}, {{-1, ""}, {}}}, item{-1, ""}, item{}, item{}, item{})
	x, y, z := 1, 2, 3
	wantMerge(t, "pointers", func(a, b *int) bool { return *a < *b }, [][]*int{{&y, &x}, {&z}}, &y, &x, &z)
	wantMerge(t, "nil pointers", neverLess[*int], [][]*int{{nil, &x}, {nil}}, nil, &x, nil)
	rows := told(stream.Merge(func(a, b []int) bool { return len(a) < len(b) }, [][]int{{1, 2}, nil}, [][]int{{3}}), -1)
	if got := fmt.Sprint(rows); got != "[[3] [1 2] []]" {
		t.Error("rows:", got)
	}
	jobs := told(stream.Merge(func(a, b api.Job) bool { return a.Release < b.Release }, at(4, 6), at(5)), -1)
	if !slices.EqualFunc(jobs, []api.Job{at(4, 6)[0], at(5)[0], at(4, 6)[1]}, sameJob) {
		t.Errorf("jobs: %v", jobs)
	}
}

func TestMergeNotGoneOver(t *testing.T) {
	asked := 0
	seq := stream.Merge(func(a, b int) bool { asked++; return a < b }, []int{1, 4}, []int{2, 3})
	n := 0
	seq(func(x int) bool {
		n++
		return false
	})
	if n != 1 {
		t.Errorf("left off behind the first, %d are told", n)
	}
	wantRow(t, "behind it", told(seq, -1), 1, 2, 3, 4)
	if asked == 0 {
		t.Error("nothing was asked")
	}
}

func TestMergeWithinMerge(t *testing.T) {
	seq := stream.Merge(rising, []int{3, 1}, []int{2, 5})
	wanted := []int{2, 3, 1, 5}
	var outer []int
	for x := range seq {
		outer = append(outer, x)
		wantRow(t, "inner, left off", told(seq, len(outer)), wanted[:len(outer)]...)
		wantRow(t, "inner", told(seq, -1), wanted...)
	}
	wantRow(t, "outer", outer, wanted...)
}

// What is handed in is not kept: rows, and the row of them, may be changed since, or as it is gone over.
func TestRowsChangedLaterAreNotSeen(t *testing.T) {
	a, b := []int{1, 4}, []int{2, 3}
	rows := [][]int{a, b}
	seq := stream.Merge(rising, rows...)
	a[0], b[1] = 100, -100
	wantRow(t, "things changed", told(seq, -1), 1, 2, 3, 4)
	rows[0], rows[1] = []int{7, 8, 9}, nil
	wantRow(t, "rows changed", told(seq, -1), 1, 2, 3, 4)
	a, b = []int{1, 4}, []int{2, 3}
	rows = [][]int{a, b}
	seq = stream.Merge(rising, rows...)
	var l []int
	for x := range seq {
		l = append(l, x)
		clear(a)
		clear(b)
		clear(rows)
	}
	wantRow(t, "changed as it is gone over", l, 1, 2, 3, 4)
	wantRow(t, "gone over again", told(seq, -1), 1, 2, 3, 4)
}

// A row that is cut is so: what stands behind it is neither told nor changed.
func TestRowsThatAreCut(t *testing.T) {
	whole := []int{1, 5, 0, 7}
	other := []int{2, 3, 9}
	wantRow(t, "cut", told(stream.Merge(rising, whole[:2], other[1:2]), -1), 1, 3, 5)
	wantRow(t, "what was cut", whole, 1, 5, 0, 7)
	wantRow(t, "what was cut", other, 2, 3, 9)
	rows := [][]int{{1}, {2}, {3}}
	wantRow(t, "cut rows", told(stream.Merge(falling, rows[:2]...), -1), 2, 1)
	if got := fmt.Sprint(rows); got != "[[1] [2] [3]]" {
		t.Error("what was cut of rows:", got)
	}
}

// What less does to the rows that were handed in, or to other sequences, is seen nowhere.
func TestLessThatChangesRows(t *testing.T) {
	a, b := []int{1, 4}, []int{2, 3}
	var seq iter.Seq[int]
	within := false
	seq = stream.Merge(func(x, y int) bool {
		clear(a)
		clear(b)
		if !within {
			within = true
			told(seq, -1)
			within = false
		}
		return x < y
	}, a, b)
	wantRow(t, "changed by less", told(seq, -1), 1, 2, 3, 4)
}

// Less is asked of things alone that are first of what is left of two rows.
func TestLessIsAskedOfFirstThings(t *testing.T) {
	rows := [][]item{named(0, 3, 1, 2), nil, named(2, 2, 2), named(3, 9, 0, 9, 0), {}, named(5, 1)}
	gone := make([]int, len(rows))
	rowOf := func(x item) int { return int(x.name[0] - 'a') }
	isFirst := func(x item) bool { return x == rows[rowOf(x)][gone[rowOf(x)]] }
	less := func(a, b item) bool {
		if a.name == "" || b.name == "" || !isFirst(a) || !isFirst(b) || rowOf(a) == rowOf(b) {
			t.Errorf("asked of %v and %v, with %v gone", a, b, gone)
		}
		return byKey(a, b)
	}
	for x := range stream.Merge(less, rows...) {
		gone[rowOf(x)]++
	}
	wantRow(t, "gone", gone, 3, 0, 2, 4, 0, 1)
}

// Many things, in two rows and in many, and many rows that are empty.
func TestMergeOfMany(t *testing.T) {
	const many = 200000
	for _, rows := range []int{1, 2, 7, 500} {
		l := make([][]item, rows)
		for i := range many {
			l[i%rows] = append(l[i%rows], item{i / 3, fmt.Sprint(i)})
		}
		all := slices.Concat(l...)
		slices.SortStableFunc(all, func(a, b item) int { return a.key - b.key })
		wantRow(t, fmt.Sprint(rows, " rows"), told(stream.Merge(byKey, l...), -1), all...)
	}
	l := make([][]int, many)
	l[7], l[many-1] = slices.Repeat([]int{2}, many), slices.Repeat([]int{1}, many)
	wantRow(t, "mostly empty", told(stream.Merge(rising, l...), -1), append(slices.Clone(l[many-1]), l[7]...)...)
	for what, key := range map[string]func(i int) int{
		"rising":  func(i int) int { return i },
		"falling": func(i int) int { return -i },
		"alike":   func(i int) int { return 0 },
	} {
		rows := make([][]int, 5000)
		for i := range rows {
			rows[i] = []int{key(i)}
		}
		all := slices.Concat(rows...)
		slices.Sort(all)
		asked := 0
		less := func(a, b int) bool { asked++; return a < b }
		wantRow(t, what+", each in a row of its own", told(stream.Merge(less, rows...), -1), all...)
		if asked > 3*5000*5000/2 { // some times of each row that has something left, not of each two of them
			t.Errorf("%s, each in a row of its own: less is asked %d times", what, asked)
		}
	}
}

// The same calls have the same answers.
func TestTheSameAgain(t *testing.T) {
	run := func() string {
		jobs := at(3, 1, 3, -1, 2)
		release, ok := stream.Next(jobs, 1)
		merged := told(stream.Merge(byKey, named(0, 2, 1), named(1, 2, 2), named(2, 1)), -1)
		return fmt.Sprint(stream.Order(jobs), groups(stream.Each(jobs), -1), stream.Of(jobs, 1), release, ok, merged)
	}
	first := run()
	for range 20 {
		if again := run(); again != first {
			t.Fatalf("%s, then %s", first, again)
		}
	}
}

func Example() {
	jobs := []api.Job{{Task: 1, Release: 7}, {Task: 0, Release: 3}, {Task: 1, Release: 3}}
	for release, places := range stream.Each(jobs) {
		fmt.Println(release, places)
	}
	for n := range stream.Merge(func(a, b int) bool { return a < b }, []int{1, 4}, []int{2, 3}) {
		fmt.Print(n, " ")
	}
	// Output:
	// 3 [1 2]
	// 7 [0]
	// 1 2 3 4
}
