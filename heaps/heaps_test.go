package heaps_test

import (
	"cmp"
	"errors"
	"math"
	"math/rand"
	"slices"
	"strings"
	"testing"
	"unsafe"

	"rialto/api"
	"rialto/heaps"
	"rialto/sample"
	"rialto/value"
)

// item is of an order by which many are alike; mark tells them apart.
type item struct{ rank, mark int }

func lower(a, b item) bool { return a.rank < b.rank }

func byRank(a, b item) int { return cmp.Compare(a.rank, b.rank) }

func less(a, b int) bool { return a < b }

func greater(a, b int) bool { return a > b }

func noOrder[T any](a, b T) bool { return false }

// marked tells items of those ranks, each marked by where it stands.
func marked(ranks ...int) []item {
	var l []item
	for i, r := range ranks {
		l = append(l, item{r, i})
	}
	return l
}

// eachRanks goes through all lists of just n ranks below count.
func eachRanks(n, count int, see func(ranks []int)) {
	ranks := make([]int, n)
	for {
		see(ranks)
		i := 0
		for ; i < n && ranks[i] == count-1; i++ {
			ranks[i] = 0
		}
		if i == n {
			return
		}
		ranks[i]++
	}
}

// someItems tells n items of few ranks.
func someItems(r *rand.Rand, n, ranks int) []item {
	l := make([]item, n)
	for i := range l {
		l[i] = item{r.Intn(ranks) - ranks/2, i}
	}
	return l
}

// inOrder is what Sort means, by the library's sort.
func inOrder(l []item) []item {
	l = slices.Clone(l)
	slices.SortStableFunc(l, byRank)
	return l
}

// edgeCounts are what n may be of a list of that length: the edges, and far beyond them.
func edgeCounts(length int) []int {
	return []int{math.MinInt, math.MinInt + 1, -1 << 32, -1<<32 + 1, -2, -1, 0, 1, 2, length / 2, length - 1, length, length + 1, 2*length + 1, 1 << 32, 1<<32 + 1, math.MaxInt - 1, math.MaxInt}
}

func sorts[T comparable](t *testing.T, l []T, before func(a, b T) bool, want []T) {
	t.Helper()
	if got := heaps.Sort(l, before); !slices.Equal(got, want) {
		t.Errorf("Sort(%v) tells %v, wanted %v", l, got, want)
	}
}

// leasts looks whether Least tells the first n of want, for all n that matter.
func leasts[T comparable](t *testing.T, l []T, before func(a, b T) bool, want []T) {
	t.Helper()
	for _, n := range edgeCounts(len(l)) {
		if got := heaps.Least(l, n, before); !slices.Equal(got, want[:max(0, min(n, len(want)))]) {
			t.Errorf("Least(%v, %d) tells %v", l, n, got)
		}
	}
	for n := range want {
		if got := heaps.Least(l, n, before); !slices.Equal(got, want[:n]) {
			t.Errorf("Least(%v, %d) tells %v", l, n, got)
		}
	}
}

func merges[T comparable](t *testing.T, l [][]T, before func(a, b T) bool, want []T) {
	t.Helper()
	if got := heaps.Merge(l, before); !slices.Equal(got, want) {
		t.Errorf("Merge(%v) tells %v, wanted %v", l, got, want)
	}
}

func TestP8_1Example(t *testing.T) {
	if got := heaps.Least([]int{3, 1, 2}, 2, less); !slices.Equal(got, []int{1, 2}) {
		t.Errorf("Least tells %v", got)
	}
}

func TestP8_1Numbers(t *testing.T) {
	l := []int{5, math.MaxInt, -1, 0, math.MinInt, 5, 1 << 32, 3, -1 << 32, math.MinInt, 4}
	want := []int{math.MinInt, math.MinInt, -1 << 32, -1, 0, 3, 4, 5, 5, 1 << 32, math.MaxInt}
	sorts(t, l, less, want)
	leasts(t, l, less, want)
	merges(t, [][]int{{-1, 5, math.MaxInt}, {math.MinInt, 0, 5, 1 << 32}, {math.MinInt, -1 << 32, 3, 4}}, less, want)

	slices.Reverse(want)
	sorts(t, l, greater, want)
	leasts(t, l, greater, want)
	merges(t, [][]int{{math.MaxInt, 5, -1}, {1 << 32, 5, 0, math.MinInt}, {4, 3, -1 << 32, math.MinInt}}, greater, want)
}

func TestP8_1Texts(t *testing.T) {
	before := func(a, b string) bool { return a < b }
	l := []string{"b", "", "ab", "\xFF", "a", "a\x00", "", "\u00E9", "B"}
	want := []string{"", "", "B", "a", "a\x00", "ab", "b", "\u00E9", "\xFF"}
	sorts(t, l, before, want)
	leasts(t, l, before, want)
	merges(t, [][]string{{"", "a", "b"}, {"B", "ab"}, {"", "a\x00", "\u00E9", "\xFF"}}, before, want)
}

// Capitals or not, a text is alike: which one it was tells where it stood.
func TestP8_1TextsThatAreAlike(t *testing.T) {
	before := func(a, b string) bool { return strings.ToLower(a) < strings.ToLower(b) }
	l := []string{"b", "A", "B", "a", "aA", "Aa", "AA", "a", "b"}
	want := []string{"A", "a", "a", "aA", "Aa", "AA", "b", "B", "b"}
	sorts(t, l, before, want)
	leasts(t, l, before, want)
	merges(t, [][]string{{"b", "B"}, {"A", "a", "aA", "Aa"}, {"a", "AA", "b"}}, before, []string{"A", "a", "a", "aA", "Aa", "AA", "b", "B", "b"})
}

// The values of all kinds, in their order of layer 2.
func TestP8_1Values(t *testing.T) {
	before := func(a, b api.Value) bool { return value.Compare(a, b) < 0 }
	want := sample.Rising()
	for seed := range int64(20) {
		r := rand.New(rand.NewSource(seed))
		l := slices.Clone(want)
		r.Shuffle(len(l), func(i, j int) { l[i], l[j] = l[j], l[i] })
		if got := heaps.Sort(l, before); !sample.RowsAlike(got, want) {
			t.Errorf("Sort(%v) tells %v", l, got)
		}
		n := r.Intn(len(l))
		if got := heaps.Least(l, n, before); !sample.RowsAlike(got, want[:n]) {
			t.Errorf("Least(%v, %d) tells %v", l, n, got)
		}
		dealt := make([][]api.Value, 5)
		for _, v := range want {
			i := r.Intn(len(dealt))
			dealt[i] = append(dealt[i], v)
		}
		if got := heaps.Merge(dealt, before); !sample.RowsAlike(got, want) {
			t.Errorf("Merge(%v) tells %v", dealt, got)
		}
	}
}

// An interface's nil is an element like others, and so is what takes no room.
func TestP8_1ElementsOfAnySort(t *testing.T) {
	failed := errors.New("failed")
	nilFirst := func(a, b error) bool { return a == nil && b != nil }
	sorts(t, []error{failed, nil, failed, nil}, nilFirst, []error{nil, nil, failed, failed})
	leasts(t, []error{failed, nil, failed, nil}, nilFirst, []error{nil, nil, failed, failed})
	merges(t, [][]error{{failed}, {nil, failed}, {nil}}, nilFirst, []error{nil, nil, failed, failed})
	sorts(t, []any{nil, 5, nil, "a"}, noOrder[any], []any{nil, 5, nil, "a"})
	leasts(t, []any{nil, 5, nil, "a"}, noOrder[any], []any{nil, 5, nil, "a"})
	merges(t, [][]any{{nil, 5}, {nil}, {"a"}}, noOrder[any], []any{nil, 5, nil, "a"})

	sorts(t, make([]struct{}, 5), noOrder[struct{}], make([]struct{}, 5))
	leasts(t, make([]struct{}, 5), noOrder[struct{}], make([]struct{}, 5))
	merges(t, [][]struct{}{make([]struct{}, 3), nil, make([]struct{}, 2)}, noOrder[struct{}], make([]struct{}, 5))

	one, two := new(int), new(int)
	sorts(t, []*int{two, nil, one}, func(a, b *int) bool { return a == nil && b != nil }, []*int{nil, two, one})
	sorts(t, [][2]string{{"b", "x"}, {"a", "y"}}, func(a, b [2]string) bool { return a[0] < b[0] }, [][2]string{{"a", "y"}, {"b", "x"}})
}

// Floats that == doesn't tell apart, or of which none is ==, come through bit by bit.
func TestP8_1FloatsByTheirBits(t *testing.T) {
	rising := []float64{sample.FirstNaN(), sample.MinusNaN(), sample.MinusNought(), 0, sample.SignalNaN(), sample.QuietNaN(), sample.LoadedNaN(), sample.LastNaN()}
	place := func(f float64) int {
		return slices.IndexFunc(rising, func(g float64) bool { return math.Float64bits(f) == math.Float64bits(g) })
	}
	l := slices.Clone(rising)
	slices.Reverse(l)
	got := heaps.Sort(l, func(a, b float64) bool { return place(a) < place(b) })
	alike := func(f, g float64) bool { return math.Float64bits(f) == math.Float64bits(g) }
	if !slices.EqualFunc(got, rising, alike) {
		t.Errorf("Sort(%v) tells %v", l, got)
	}
}

func TestP8_1NoElements(t *testing.T) {
	for _, l := range [][]int{nil, {}, make([]int, 0, 5), []int{1, 2, 3}[:0]} {
		sorts(t, l, less, nil)
		leasts(t, l, less, nil)
		merges(t, [][]int{l}, less, nil)
		merges(t, [][]int{l, nil, l, {}}, less, nil)
	}
	merges(t, nil, less, nil)
	merges(t, [][]int{}, less, nil)
	merges(t, [][]int{{1}, {2}}[:0], less, nil)
}

func TestP8_1OneElement(t *testing.T) {
	for _, n := range []int{math.MinInt, -1, 0, 1, math.MaxInt} {
		sorts(t, []int{n}, less, []int{n})
		leasts(t, []int{n}, less, []int{n})
		merges(t, [][]int{{n}}, less, []int{n})
		merges(t, [][]int{nil, {}, {n}, nil}, less, []int{n})
	}
}

func TestP8_1AllAlike(t *testing.T) {
	for n := range 70 {
		want := marked(make([]int, n)...)
		sorts(t, want, lower, want)
		leasts(t, want, lower, want)
		sorts(t, want, noOrder[item], want)
		for cut := range n + 1 {
			merges(t, [][]item{want[:cut], want[cut:]}, lower, want)
			merges(t, [][]item{want[:cut/2], want[cut/2 : cut], nil, want[cut:]}, lower, want)
		}
	}
}

// Nothing but the elements within the length is there.
func TestP8_1SpareRoom(t *testing.T) {
	l := []int{3, 2, 1, -5, -6}
	sorts(t, l[:3], less, []int{1, 2, 3})
	leasts(t, l[:3], less, []int{1, 2, 3})
	merges(t, [][]int{l[2:3], l[1:2], l[:1]}, less, []int{1, 2, 3})
}

func TestP8_1SortAndLeastAllShortLists(t *testing.T) {
	for n := range 8 {
		eachRanks(n, 3, func(ranks []int) {
			l := marked(ranks...)
			want := inOrder(l)
			sorts(t, l, lower, want)
			leasts(t, l, lower, want)
		})
	}
	eachRanks(5, 5, func(ranks []int) {
		l := marked(ranks...)
		sorts(t, l, lower, inOrder(l))
	})
}

// All ways to deal up to five items of three ranks to three lists, each of which then stands in order.
func TestP8_1MergeAllShortLists(t *testing.T) {
	for n := range 6 {
		eachRanks(n, 9, func(dealt []int) {
			lists := make([][]item, 3)
			for _, d := range dealt {
				lists[d%3] = append(lists[d%3], item{rank: d / 3})
			}
			merged := numbered(lists)
			merges(t, lists, lower, merged)
		})
	}
}

// numbered puts each list in order, marks its items by the list's number and their place, and tells all of them in order.
func numbered(lists [][]item) []item {
	var all []item
	for i, l := range lists {
		slices.SortStableFunc(l, byRank)
		for j := range l {
			l[j].mark = i*1000 + j
		}
		all = append(all, l...)
	}
	return inOrder(all)
}

func TestP8_1LongLists(t *testing.T) {
	for seed := range int64(200) {
		r := rand.New(rand.NewSource(seed))
		l := someItems(r, r.Intn(300), 1+r.Intn(40))
		want := inOrder(l)
		sorts(t, l, lower, want)
		leasts(t, l, lower, want)

		lists := make([][]item, 1+r.Intn(20))
		for range r.Intn(300) {
			i := r.Intn(len(lists))
			lists[i] = append(lists[i], item{rank: r.Intn(12)})
		}
		merges(t, lists, lower, numbered(lists))
	}
}

// What stands in order already, and what stands the other way round.
func TestP8_1RisingAndFalling(t *testing.T) {
	const n = 20000
	var rising, falling []int
	for i := range n {
		rising = append(rising, i)
		falling = append(falling, n-1-i)
	}
	for _, l := range [][]int{rising, falling} {
		if !slices.Equal(heaps.Sort(l, less), rising) || !slices.Equal(heaps.Least(l, 100, less), rising[:100]) {
			t.Error("Sort or Least tells another order")
		}
	}
	if got := heaps.Merge([][]int{rising, nil, rising}, less); !slices.IsSorted(got) || len(got) != 2*n {
		t.Error("Merge tells another order")
	}
	singles := make([][]int, n)
	for i := range singles {
		singles[i] = []int{n - 1 - i}
	}
	if !slices.Equal(heaps.Merge(singles, less), rising) {
		t.Error("Merge of many lists tells another order")
	}
}

// A list may be there twice; each time it is a list of its own.
func TestP8_1MergeOfOneListTwice(t *testing.T) {
	l := []item{{1, 1}, {1, 2}, {2, 3}}
	merges(t, [][]item{l, l}, lower, []item{{1, 1}, {1, 2}, {1, 1}, {1, 2}, {2, 3}, {2, 3}})
}

// An order may itself ask for one.
func TestP8_1OrderThatSorts(t *testing.T) {
	least := func(l string) int { return heaps.Least([]int{int(l[0]), int(l[1])}, 1, less)[0] }
	before := func(a, b string) bool { return least(a) < least(b) }
	l := []string{"zc", "bz", "za", "bx"}
	sorts(t, l, before, []string{"za", "bz", "bx", "zc"})
	merges(t, [][]string{l[:1], l[2:]}, before, []string{"za", "bx", "zc"})
}

// What user code panics with is told by nobody here: it comes out.
func TestP8_1PanicComesOut(t *testing.T) {
	for calls := range 4 {
		left := calls
		before := func(a, b int) bool {
			if left == 0 {
				panic("no order")
			}
			left--
			return a < b
		}
		for name, call := range map[string]func(){
			"Sort":  func() { heaps.Sort([]int{4, 3, 2, 1}, before) },
			"Least": func() { heaps.Least([]int{4, 3, 2, 1}, 3, before) },
			"Merge": func() { heaps.Merge([][]int{{1, 4}, {2, 3}, {0}}, before) },
		} {
			left = calls
			if got := thrownBy(call); got != "no order" {
				t.Errorf("%s panics with %v", name, got)
			}
		}
	}
}

func thrownBy(call func()) (p any) {
	defer func() { p = recover() }()
	call()
	return nil
}

// spared tells l with spare room behind it, full of x.
func spared[T any](x T, l ...T) []T {
	l = append(slices.Clone(l), x, x, x)
	return l[: len(l)-3 : len(l)]
}

// fill writes x into all of l, and into the room behind it.
func fill[T any](l []T, x T) {
	l = l[:cap(l)]
	for i := range l {
		l[i] = x
	}
}

func TestP8_1ArgumentsStay(t *testing.T) {
	l := spared(item{-9, -9}, marked(2, 1, 2, 0, 1)...)
	was := slices.Clone(l[:cap(l)])
	heaps.Sort(l, lower)
	for _, n := range edgeCounts(len(l)) {
		heaps.Least(l, n, lower)
	}
	if !slices.Equal(l[:cap(l)], was) || len(l) != len(was)-3 {
		t.Errorf("the list is %v, it was %v", l[:cap(l)], was)
	}

	lists := spared([]item{{-9, -9}}, l, nil, spared(item{-9, -9}, item{0, 1}, item{2, 2}), []item{}, l[:2])
	var before [][]item
	for _, one := range lists[:cap(lists)] {
		before = append(before, slices.Clone(one[:cap(one)]))
	}
	lengths := []int{5, 0, 2, 0, 2, 1, 1, 1}
	heaps.Merge(lists, lower)
	for i, one := range lists[:cap(lists)] {
		if !slices.Equal(one[:cap(one)], before[i]) || len(one) != lengths[i] {
			t.Errorf("list %d is %v, it was %v", i, one[:cap(one)], before[i])
		}
	}
}

// The arguments stay where the order panics, too.
func TestP8_1ArgumentsStayAtAPanic(t *testing.T) {
	for calls := range 30 {
		l := spared(-9, 4, 3, 2, 1, 0)
		lists := [][]int{spared(-9, 1, 4), spared(-9, 2, 3), spared(-9, 0)}
		left := calls
		before := func(a, b int) bool {
			if left == 0 {
				panic("no order")
			}
			left--
			return a < b
		}
		for _, call := range []func(){func() { heaps.Sort(l, before) }, func() { heaps.Least(l, 2, before) }, func() { heaps.Merge(lists, before) }} {
			left = calls
			thrownBy(call)
		}
		if !slices.Equal(l[:cap(l)], []int{4, 3, 2, 1, 0, -9, -9, -9}) {
			t.Fatalf("the list is %v", l[:cap(l)])
		}
		for i, want := range [][]int{{1, 4, -9, -9, -9}, {2, 3, -9, -9, -9}, {0, -9, -9, -9}} {
			if !slices.Equal(lists[i][:cap(lists[i])], want) {
				t.Fatalf("list %d is %v", i, lists[i][:cap(lists[i])])
			}
		}
	}
}

// answers are what the calls tell of l, which stands in order; of Merge, too, where it has next to nothing to do.
func answers(l []int) [][]int {
	return [][]int{
		heaps.Sort(l, less), heaps.Sort(l, less), heaps.Sort(l, noOrder[int]),
		heaps.Least(l, 2, less), heaps.Least(l, 0, less), heaps.Least(l, len(l), less), heaps.Least(l, math.MaxInt, less),
		heaps.Merge([][]int{l}, less), heaps.Merge([][]int{nil, l, nil}, less), heaps.Merge([][]int{l[:1], l[1:]}, less), heaps.Merge([][]int{l, l}, less),
		heaps.Merge([][]int{l[:0], l[:1]}, less), heaps.Merge([][]int{l[:0]}, less),
	}
}

func TestP8_1AnswersAreNewMemory(t *testing.T) {
	l := spared(-9, 1, 2, 3, 4)
	was := slices.Clone(l[:cap(l)])
	got := answers(l)
	want := answers(slices.Clone(was[:4]))
	for i, a := range got {
		if !slices.Equal(a, want[i]) {
			t.Fatalf("answer %d is %v", i, a)
		}
		fill(a, 77)
		if !slices.Equal(l[:cap(l)], was) {
			t.Fatalf("answer %d shares memory with what was handed in", i)
		}
		for j := i + 1; j < len(got); j++ {
			if !slices.Equal(got[j], want[j]) {
				t.Fatalf("answers %d and %d share memory", i, j)
			}
		}
	}
	got = answers(l)
	fill(l, 77)
	for i, a := range got {
		if !slices.Equal(a, want[i]) {
			t.Errorf("answer %d is %v once the list is another", i, a)
		}
	}
}

// overlap tells whether two lists share any room, spare room included.
func overlap(a, b []int) bool {
	if cap(a) == 0 || cap(b) == 0 {
		return false
	}
	size := unsafe.Sizeof(a[:1][0])
	a1, b1 := uintptr(unsafe.Pointer(unsafe.SliceData(a))), uintptr(unsafe.Pointer(unsafe.SliceData(b)))
	return a1 < b1+uintptr(cap(b))*size && b1 < a1+uintptr(cap(a))*size
}

func TestP8_1NoRoomIsShared(t *testing.T) {
	l := spared(-9, 1, 2, 3, 4)
	got := append(answers(l), l)
	for i, a := range got {
		for j := range i {
			if overlap(a, got[j]) {
				t.Errorf("lists %d and %d share room", j, i)
			}
		}
	}
}

func TestP8_2Example(t *testing.T) {
	f := heaps.NewFree()
	for _, n := range []int{5, -2, 5, 3} {
		f.Put(n)
	}
	takes(t, f, -2, 3, 5, 5)
}

// takes looks whether the bag has just those numbers, in that order.
func takes(t *testing.T, f *heaps.Free, want ...int) {
	t.Helper()
	for i, w := range want {
		if n := f.Len(); n != len(want)-i {
			t.Fatalf("Len tells %d, wanted %d", n, len(want)-i)
		}
		if n, ok := f.Take(); n != w || !ok {
			t.Fatalf("Take tells %d, %t; wanted %d", n, ok, w)
		}
	}
	isEmpty(t, f)
}

func isEmpty(t *testing.T, f *heaps.Free) {
	t.Helper()
	for range 2 {
		if n := f.Len(); n != 0 {
			t.Fatalf("Len of an empty one tells %d", n)
		}
		if n, ok := f.Take(); n != 0 || ok {
			t.Fatalf("Take of an empty one tells %d, %t", n, ok)
		}
	}
}

func TestP8_2Empty(t *testing.T) {
	f := heaps.NewFree()
	isEmpty(t, f)
	for _, n := range []int{7, 0, -7, math.MaxInt, math.MinInt} {
		f.Put(n)
		takes(t, f, n)
		f.Put(n)
		f.Put(n)
		takes(t, f, n, n)
	}
}

func TestP8_2SameNumberSeveralTimes(t *testing.T) {
	for count := range 40 {
		f := heaps.NewFree()
		var want []int
		for i := range count {
			f.Put(5)
			want = append(want, 5)
			if f.Len() != i+1 {
				t.Fatalf("Len tells %d behind %d", f.Len(), i+1)
			}
		}
		takes(t, f, want...)
	}
}

func TestP8_2Edges(t *testing.T) {
	f := heaps.NewFree()
	for _, n := range []int{0, math.MaxInt, math.MinInt, 1, -1, math.MinInt, math.MaxInt - 1, math.MinInt + 1, math.MaxInt, 1 << 32, -1 << 32, 1<<31 - 1, -1 << 31} {
		f.Put(n)
	}
	takes(t, f, math.MinInt, math.MinInt, math.MinInt+1, -1<<32, -1<<31, -1, 0, 1, 1<<31-1, 1<<32, math.MaxInt-1, math.MaxInt, math.MaxInt)
}

// bag is what Free means: its numbers, rising.
type bag []int

func (b *bag) put(n int) {
	i, _ := slices.BinarySearch(*b, n)
	*b = slices.Insert(*b, i, n)
}

func (b *bag) take() (int, bool) {
	if len(*b) == 0 {
		return 0, false
	}
	n := (*b)[0]
	*b = (*b)[1:]
	return n, true
}

// both does a step with a Free and with what it means: to put n, or to take.
type both struct {
	free  *heaps.Free
	means bag
}

func (b *both) put(t *testing.T, n int) {
	t.Helper()
	b.free.Put(n)
	b.means.put(n)
	b.look(t)
}

func (b *both) take(t *testing.T) {
	t.Helper()
	got, is := b.free.Take()
	want, there := b.means.take()
	if got != want || is != there {
		t.Fatalf("Take tells %d, %t; wanted %d, %t", got, is, want, there)
	}
	b.look(t)
}

func (b *both) look(t *testing.T) {
	t.Helper()
	if b.free.Len() != len(b.means) {
		t.Fatalf("Len tells %d, wanted %d", b.free.Len(), len(b.means))
	}
}

// All ways to put one of three numbers or to take, seven times, and then to take what is left.
func TestP8_2AllShortWays(t *testing.T) {
	for steps := range 8 {
		eachRanks(steps, 4, func(ways []int) {
			b := both{free: heaps.NewFree()}
			for _, w := range ways {
				if w == 3 {
					b.take(t)
				} else {
					b.put(t, w-1)
				}
			}
			for range steps + 1 {
				b.take(t)
			}
		})
	}
}

func TestP8_2LongWays(t *testing.T) {
	for seed := range int64(60) {
		r := rand.New(rand.NewSource(seed))
		b := both{free: heaps.NewFree()}
		puts := 30 + r.Intn(50)
		for range 3000 {
			if r.Intn(100) < puts {
				b.put(t, r.Intn(200)-100)
			} else {
				b.take(t)
			}
		}
		takes(t, b.free, b.means...)
	}
}

func TestP8_2EachIsItsOwn(t *testing.T) {
	f, g := heaps.NewFree(), heaps.NewFree()
	for i := range 10 {
		f.Put(i)
		g.Put(-i)
	}
	if n, ok := f.Take(); n != 0 || !ok || g.Len() != 10 {
		t.Error("what is taken out of one is out of the other")
	}
	takes(t, g, -9, -8, -7, -6, -5, -4, -3, -2, -1, 0)
	takes(t, f, 1, 2, 3, 4, 5, 6, 7, 8, 9)
	isEmpty(t, heaps.NewFree())
}

// counts tells how often each element is there.
func counts[T comparable](lists ...[]T) map[T]int {
	m := map[T]int{}
	for _, l := range lists {
		for _, x := range l {
			m[x]++
		}
	}
	return m
}

func sameCounts[T comparable](a, b map[T]int) bool {
	for x, n := range a {
		if b[x] != n {
			return false
		}
	}
	return len(a) == len(b)
}

// Lists that don't stand in order lose nothing, and nothing is there twice.
func TestP8_3MergeOfListsOutOfOrder(t *testing.T) {
	for _, lists := range [][][]int{
		{{3, 1}, {2}}, {{3, 2, 1}}, {{3, 2, 1}, {3, 2, 1}, nil, {1, 3, 2}}, {{1, 0}, {1, 0}, {1, 0}, {1, 0}}, {{math.MaxInt, math.MinInt}, {0}},
	} {
		if got := heaps.Merge(lists, less); !sameCounts(counts(got), counts(lists...)) {
			t.Errorf("Merge(%v) tells %v", lists, got)
		}
	}
	for n := range 6 {
		eachRanks(n, 9, func(dealt []int) {
			lists := make([][]int, 3)
			for _, d := range dealt {
				lists[d%3] = append(lists[d%3], d/3)
			}
			if got := heaps.Merge(lists, less); !sameCounts(counts(got), counts(lists...)) {
				t.Errorf("Merge(%v) tells %v", lists, got)
			}
		})
	}
}

func TestP8_3LongListsOutOfOrder(t *testing.T) {
	for seed := range int64(200) {
		r := rand.New(rand.NewSource(seed))
		lists := make([][]item, r.Intn(12))
		for i := range lists {
			lists[i] = someItems(r, r.Intn(40), 10)
		}
		got := heaps.Merge(lists, lower)
		if !sameCounts(counts(got), counts(lists...)) {
			t.Errorf("Merge(%v) tells %v", lists, got)
		}
		if again := heaps.Merge(lists, lower); !slices.Equal(again, got) {
			t.Errorf("Merge(%v) tells %v, then %v", lists, got, again)
		}
	}
}

func TestP8_3SortAndLeastLoseNothing(t *testing.T) {
	for seed := range int64(200) {
		r := rand.New(rand.NewSource(seed))
		l := someItems(r, r.Intn(200), 5)
		for i := range l {
			l[i].mark = r.Intn(3)
		}
		whole := counts(l)
		if got := heaps.Sort(l, lower); !sameCounts(counts(got), whole) {
			t.Errorf("Sort(%v) tells %v", l, got)
		}
		if got := heaps.Least(l, len(l), lower); !sameCounts(counts(got), whole) {
			t.Errorf("Least(%v) of all tells %v", l, got)
		}
		for x, n := range counts(heaps.Least(l, len(l)/2, lower)) {
			if n > whole[x] {
				t.Errorf("Least(%v, %d) tells %v %d times", l, len(l)/2, x, n)
			}
		}
	}
}

func TestP8_3FreeLosesNothing(t *testing.T) {
	r := rand.New(rand.NewSource(1))
	f := heaps.NewFree()
	var in, out []int
	for range 5000 {
		if r.Intn(3) > 0 {
			n := r.Intn(50) - 25
			f.Put(n)
			in = append(in, n)
		} else if n, ok := f.Take(); ok {
			out = append(out, n)
		}
	}
	for f.Len() > 0 {
		n, _ := f.Take()
		out = append(out, n)
	}
	if !sameCounts(counts(in), counts(out)) {
		t.Error("what was put isn't what was taken")
	}
}
