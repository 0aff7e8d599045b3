package tree_test

import (
	"errors"
	"fmt"
	"math"
	"math/bits"
	"math/rand"
	"runtime"
	"slices"
	"strconv"
	"testing"
	"unsafe"
	"weak"

	"rialto/api"
	"rialto/tree"
)

// logs tells floor(log2(n + 1)) + 1.
func logs(n int) int { return bits.Len(uint(n + 1)) }

// room tells how many elements a tree of that height may have: a node with Branch of them has one more below it.
func room(height int) int {
	n := 1
	for range height {
		n *= api.Branch + 1
	}
	return n - 1
}

// outside are numbers that are no places of n elements; n itself is one where something is inserted alone.
func outside(n int) []int {
	return []int{math.MinInt, math.MinInt + 1, math.MinInt32, -1 << 32, -n - 1, -2, -1, n + 1, n + 2, 2*n + 3, 1<<32 + n/2, math.MaxInt32, math.MaxInt - 1, math.MaxInt}
}

// both does each step with a tree and with a plain list beside it, and looks at all that can be told behind it.
type both[T comparable] struct {
	t      *testing.T
	tree   *tree.Tree[T]
	list   []T
	steps  []string
	writes int
}

func begin[T comparable](t *testing.T) *both[T] {
	t.Helper()
	b := &both[T]{t: t, tree: tree.New[T]()}
	b.look()
	return b
}

func (b *both[T]) fail(form string, args ...any) {
	b.t.Helper()
	b.t.Fatalf("%v, %d elements: %s", b.steps[max(0, len(b.steps)-30):], len(b.list), fmt.Sprintf(form, args...))
}

// did looks at the error that a call told, and at how many nodes it wrote of a tree that had so many elements.
func (b *both[T]) did(call string, i int, got, want api.Errno, had int) {
	b.t.Helper()
	b.steps = append(b.steps, call+"("+strconv.Itoa(i)+")")
	if got != want {
		b.fail("tells %d, wanted %d", got, want)
	}
	wrote := b.tree.Writes() - b.writes
	switch {
	case want != api.OK && wrote != 0:
		b.fail("wrote %d nodes beside an error", wrote)
	case want == api.OK && (wrote < 1 || wrote > api.StepC*logs(had)):
		b.fail("wrote %d nodes of %d elements", wrote, had)
	}
	b.writes += wrote
	b.look()
}

func (b *both[T]) insert(i int, v T) {
	b.t.Helper()
	n, want := len(b.list), api.ErrPlace
	if i >= 0 && i <= n {
		want = api.OK
		b.list = slices.Insert(b.list, i, v)
	}
	b.did("InsertAt", i, b.tree.InsertAt(i, v), want, n)
	if got, _ := b.tree.At(i); want == api.OK && got != v {
		b.fail("At tells %v, wanted %v", got, v)
	}
}

func (b *both[T]) erase(i int) {
	b.t.Helper()
	var out T
	n, want := len(b.list), api.ErrPlace
	if i >= 0 && i < n {
		want, out = api.OK, b.list[i]
		b.list = slices.Delete(b.list, i, i+1)
	}
	got, e := b.tree.EraseAt(i)
	b.did("EraseAt", i, e, want, n)
	if got != out {
		b.fail("EraseAt tells %v, wanted %v", got, out)
	}
}

func (b *both[T]) set(i int, v T) {
	b.t.Helper()
	n, want := len(b.list), api.ErrPlace
	if i >= 0 && i < n {
		want = api.OK
		b.list[i] = v
	}
	b.did("SetAt", i, b.tree.SetAt(i, v), want, n)
}

// wrong makes all calls at places that aren't there.
func (b *both[T]) wrong(v T) {
	b.t.Helper()
	for _, i := range outside(len(b.list)) {
		b.insert(i, v)
		b.erase(i)
		b.set(i, v)
	}
	b.erase(len(b.list))
	b.set(len(b.list), v)
}

func (b *both[T]) slice(from, to int) {
	b.t.Helper()
	var want []T
	if from < to && from < len(b.list) && to > 0 {
		want = b.list[max(from, 0):min(to, len(b.list))]
	}
	if got := b.tree.Slice(from, to); !slices.Equal(got, want) {
		b.fail("Slice(%d, %d) tells %v, wanted %v", from, to, got, want)
	}
}

// look asks all that writes no node, and looks whether it does.
func (b *both[T]) look() {
	b.t.Helper()
	n := len(b.list)
	if got := b.tree.Len(); got != n {
		b.fail("Len tells %d", got)
	}
	for i, want := range b.list {
		if got, ok := b.tree.At(i); got != want || !ok {
			b.fail("At(%d) tells %v, %t, wanted %v", i, got, ok, want)
		}
	}
	var zero T
	for _, i := range append(outside(n), n) {
		if got, ok := b.tree.At(i); got != zero || ok {
			b.fail("At(%d) tells %v, %t", i, got, ok)
		}
	}
	b.slice(0, n)
	b.slice(-1, n+1)
	b.slice(n/3, n-n/4)
	if fault := heightFault(n, b.tree.Height()); fault != "" {
		b.fail("%s", fault)
	}
	if got := b.tree.Writes(); got != b.writes {
		b.fail("Writes tells %d, wanted %d", got, b.writes)
	}
}

// heightFault tells what is wrong with that height of a tree with n elements: it may be too low as well, since
// then a node has more than Branch of them.
func heightFault(n, height int) string {
	switch {
	case height < 0 || (height == 0) != (n == 0) || height > logs(n):
		return fmt.Sprintf("Height tells %d of %d elements", height, n)
	case n > room(height):
		return fmt.Sprintf("Height tells %d of %d elements: a node has more than %d", height, n, api.Branch)
	}
	return ""
}

// order is a way to tell a place of n, one behind the other.
type order struct {
	name  string
	place func(step, n int) int
}

func inFront(_, n int) int { return 0 }

func atTheBack(_, n int) int { return n - 1 }

func inTheMiddle(_, n int) int { return n / 2 }

func atBothEnds(step, n int) int { return step % 2 * (n - 1) }

// anywhere tells places that are the same each time the tests run.
func anywhere() func(step, n int) int {
	r := rand.New(rand.NewSource(1))
	return func(_, n int) int { return r.Intn(n) }
}

func mostlyInFront() func(step, n int) int {
	r := rand.New(rand.NewSource(2))
	return func(_, n int) int { return r.Intn(r.Intn(n) + 1) }
}

// simple are the orders by which most goes wrong that goes wrong at all.
func simple() []order {
	return []order{{"in front", inFront}, {"at the back", atTheBack}, {"in the middle", inTheMiddle}, {"at both ends", atBothEnds}, {"anywhere", anywhere()}}
}

func orders() []order {
	return append(simple(),
		order{"second", func(_, n int) int { return min(1, n-1) }},
		order{"last but one", func(_, n int) int { return max(0, n-2) }},
		order{"a third in", func(_, n int) int { return n / 3 }},
		order{"wandering", func(step, n int) int { return step * 7 % n }},
		order{"wandering widely", func(step, n int) int { return step * 61 % n }},
		order{"wandering back", func(step, n int) int { return n - 1 - step*2%n }},
		order{"mostly in front", mostlyInFront()},
	)
}

// full tells a tree of the numbers from 0 up to n - 1, in order, built in that order of the places.
func full(n int, place func(step, n int) int) *tree.Tree[int] {
	x := tree.New[int]()
	for i := range n {
		x.InsertAt(place(i, i+1), i)
	}
	for i := range n {
		x.SetAt(i, i)
	}
	return x
}

// worn tells the same tree, out of one that has had twice as many elements.
func worn(n int, place func(step, n int) int) *tree.Tree[int] {
	x := full(2*n, place)
	for i := range n {
		x.EraseAt(place(i, 2*n-i))
	}
	for i := range n {
		x.SetAt(i, i)
	}
	return x
}

// numbers tells 0 up to n - 1.
func numbers(n int) []int {
	l := make([]int, n)
	for i := range l {
		l[i] = i
	}
	return l
}

func TestNumbersOfTheChapter(t *testing.T) {
	if api.ErrPlace != 73 || api.StepC != 8 || api.Branch != 8 {
		t.Errorf("ErrPlace is %d, StepC %d, Branch %d", api.ErrPlace, api.StepC, api.Branch)
	}
}

func TestP11_1Example(t *testing.T) {
	x := tree.New[string]()
	x.InsertAt(0, "a")
	x.InsertAt(0, "b")
	x.InsertAt(1, "c")
	if got := x.Slice(0, 3); !slices.Equal(got, []string{"b", "c", "a"}) {
		t.Errorf("Slice tells %v", got)
	}
}

func TestP11_1Empty(t *testing.T) {
	b := begin[string](t)
	b.wrong("x")
	for _, from := range append(outside(0), 0) {
		for _, to := range append(outside(0), 0) {
			b.slice(from, to)
		}
	}
	if got := b.tree.Search(func(string) bool { b.fail("Search asks"); return true }); got != 0 {
		b.fail("Search tells %d", got)
	}
	if b.tree.Len() != 0 || b.tree.Height() != 0 || b.tree.Writes() != 0 {
		b.fail("Len tells %d, Height %d, Writes %d", b.tree.Len(), b.tree.Height(), b.tree.Writes())
	}
	b.insert(0, "a")
	b.erase(0)
	b.wrong("x")
	b.insert(0, "b")
}

// All ways to take four steps, wrong ones among them.
func TestP11_1AllShortWays(t *testing.T) {
	var all []func(b *both[int], v int)
	for i := -1; i <= 3; i++ {
		all = append(all, func(b *both[int], v int) { b.insert(i, v) }, func(b *both[int], v int) { b.erase(i) })
	}
	all = append(all, func(b *both[int], v int) { b.set(0, v) }, func(b *both[int], v int) { b.set(2, v) })
	for way := range len(all) * len(all) * len(all) * len(all) {
		b := &both[int]{t: t, tree: tree.New[int]()}
		for v := range 4 {
			all[way%len(all)](b, v+1)
			way /= len(all)
		}
	}
}

// All orders in which six elements come in, and go out again.
func TestP11_1AllOrders(t *testing.T) {
	const n = 6
	for way := range 1 * 2 * 3 * 4 * 5 * 6 {
		in := &both[int]{t: t, tree: tree.New[int]()}
		for rest, i := way, 1; i <= n; i++ {
			in.insert(rest%i, i)
			rest /= i
		}
		out := &both[int]{t: t, tree: tree.New[int]()}
		for i := range n {
			out.insert(i, i+1)
		}
		for rest, left := way, n; left > 0; left-- {
			out.erase(rest % left)
			rest /= left
		}
	}
}

// From each small tree on, each single change at each place: the sizes reach over several splits and joins.
func TestP11_1EachChangeOfEachSize(t *testing.T) {
	for _, size := range []int{1, 2, 3, 4, 7, 8, 9, 10, 16, 17, 31, 32, 33, 36, 37, 40, 63, 64, 65, 72, 73, 80, 81} {
		for i := range size + 1 {
			for _, change := range []func(b *both[int]){
				func(b *both[int]) { b.insert(i, -1) },
				func(b *both[int]) { b.erase(i) },
				func(b *both[int]) { b.set(i, -1) },
			} {
				b := &both[int]{t: t, tree: full(size, atTheBack), list: numbers(size)}
				b.writes = b.tree.Writes()
				change(b)
			}
		}
	}
}

func TestP11_1LongRows(t *testing.T) {
	for _, in := range orders() {
		for _, out := range orders() {
			b := begin[int](t)
			b.steps = append(b.steps, in.name, out.name)
			for i := range 150 {
				b.insert(in.place(i, i+1), i)
				b.set(out.place(i, i+1), -i)
			}
			b.wrong(-1000)
			for i := range 150 {
				b.erase(out.place(i, 150-i))
				if i%50 == 10 {
					b.wrong(-1000)
				}
			}
			b.insert(0, 1)
		}
	}
}

func TestP11_1SomeHundred(t *testing.T) {
	for _, o := range orders() {
		b := begin[int](t)
		b.steps = append(b.steps, o.name)
		for i := range 500 {
			b.insert(o.place(i, i+1), i)
		}
		for i := range 500 {
			b.set(i, 1000+i)
		}
		for i := range 500 {
			b.erase(o.place(i, 500-i))
		}
	}
}

func TestP11_1AnyRows(t *testing.T) {
	for seed := range int64(40) {
		r := rand.New(rand.NewSource(seed))
		b := begin[int](t)
		growing := 0
		for i := range 600 {
			if i%150 == 0 {
				growing = 2 + r.Intn(6)
			}
			n := len(b.list)
			switch k := r.Intn(10); {
			case k == 9:
				b.set(r.Intn(n+3)-1, i)
			case k < growing:
				b.insert(r.Intn(n+3)-1, i)
			default:
				b.erase(r.Intn(n+3) - 1)
			}
			b.slice(r.Intn(n+5)-2, r.Intn(n+5)-2)
		}
	}
}

// Elements of another type: a text's zero is a text as others.
func TestP11_1Texts(t *testing.T) {
	r := rand.New(rand.NewSource(7))
	b := begin[string](t)
	for i := range 400 {
		n := len(b.list)
		switch r.Intn(6) {
		case 0:
			b.set(r.Intn(n+2)-1, strconv.Itoa(i))
		case 1:
			b.erase(r.Intn(n+2) - 1)
		case 2:
			b.insert(r.Intn(n+1), "")
		default:
			b.insert(r.Intn(n+3)-1, "t"+strconv.Itoa(i))
		}
	}
	b.wrong("wrong")
}

type pair struct {
	name string
	n    float64
}

// some inserts, sets and erases elements of any type, each as often as it likes.
func some[T comparable](t *testing.T, elems ...T) {
	t.Helper()
	b := begin[T](t)
	for i := range 60 {
		b.insert(i*5%(len(b.list)+1), elems[i%len(elems)])
		b.set(i*3%len(b.list), elems[i/2%len(elems)])
	}
	b.wrong(elems[0])
	for i := range 60 {
		b.erase(i * 7 % len(b.list))
	}
}

func TestP11_1ElementsOfAnyType(t *testing.T) {
	one, two := new(int), new(int)
	some(t, "", "a", "b")
	some(t, pair{"a", 1}, pair{}, pair{"b", -2})
	some(t, one, nil, two, one)
	some[any](t, nil, 5, "a", 5.0, one, pair{"a", 1})
	some[error](t, nil, api.ErrPlace, errors.New("other"))
	some(t, struct{}{})
	some(t, true, false, false)
	some(t, [20]string{3: "a"}, [20]string{}, [20]string{19: "b"})
	some(t, api.Value{Kind: api.Int, Int: 1}, api.Value{}, api.Value{Kind: api.Str, Str: "a"})
	some(t, int64(math.MinInt64), 0, math.MaxInt64)
	some[uint8](t, 0, 255, 1)
}

// What can't be told apart by == comes out as it came in.
func TestP11_1ElementsThatAreNotHeldAgainstEachOther(t *testing.T) {
	lists, calls, floats := tree.New[[]int](), tree.New[func() int](), tree.New[float64]()
	bitsOf := []uint64{0x7FF8000000000001, 0x8000000000000000, 0, 0xFFF8000000000000, 0x7FF0000000000001}
	for i := range 50 {
		lists.InsertAt(i/2, []int{i, -i})
		calls.InsertAt(i/2, func() int { return i })
		floats.InsertAt(i/2, math.Float64frombits(bitsOf[i%5]))
	}
	var want []int
	for i := range 50 {
		want = slices.Insert(want, i/2, i)
	}
	for place, i := range want {
		l, _ := lists.At(place)
		f, _ := calls.At(place)
		n, _ := floats.At(place)
		if !slices.Equal(l, []int{i, -i}) || f() != i || math.Float64bits(n) != bitsOf[i%5] {
			t.Fatalf("At(%d) tells %v, %d, %v, wanted those of %d", place, l, f(), n, i)
		}
	}
	l, e := lists.EraseAt(50)
	f, ok := calls.At(-1)
	if l != nil || e != api.ErrPlace || f != nil || ok {
		t.Errorf("EraseAt tells %v, %d, At %t", l, e, ok)
	}
}

func TestP11_1AllSlices(t *testing.T) {
	for n := range 50 {
		b := begin[int](t)
		for i := range n {
			b.insert(i, i)
		}
		for from := -3; from <= n+3; from++ {
			for to := -3; to <= n+3; to++ {
				b.slice(from, to)
			}
		}
		for _, from := range append(outside(n), 0, n/2, n) {
			for _, to := range append(outside(n), 0, n/2, n) {
				b.slice(from, to)
			}
		}
	}
}

func TestP11_1SlicesOfManyElements(t *testing.T) {
	for _, o := range orders() {
		const n = 700
		b := &both[int]{t: t, tree: worn(n, o.place), list: numbers(n), steps: []string{o.name}}
		r := rand.New(rand.NewSource(1))
		for range 500 {
			from, to := r.Intn(n+9)-4, r.Intn(n+9)-4
			b.slice(from, to)
			b.slice(from, from+r.Intn(9))
			b.slice(math.MinInt, to)
			b.slice(from, math.MaxInt)
		}
	}
}

// searches looks what Search tells where f is false below from and true from it on.
func searches(t *testing.T, x *tree.Tree[int], from int) {
	t.Helper()
	n, asked := x.Len(), 0
	got := x.Search(func(v int) bool {
		if v < 0 || v >= n {
			t.Fatalf("%d elements: f is asked of %d, which isn't there", n, v)
		}
		asked++
		return v >= from
	})
	if want := max(0, min(from, n)); got != want {
		t.Fatalf("%d elements: Search tells %d, wanted %d", n, got, want)
	}
	if asked > 4*logs(n) {
		t.Fatalf("%d elements: f is asked %d times", n, asked)
	}
}

func TestP11_2EachPlaceOfEachSize(t *testing.T) {
	x := tree.New[int]()
	for n := range 400 {
		writes := x.Writes()
		for from := -1; from <= n+1; from++ {
			searches(t, x, from)
		}
		if x.Writes() != writes {
			t.Fatalf("Search wrote %d nodes", x.Writes()-writes)
		}
		x.InsertAt(n, n)
	}
}

func TestP11_2TreesOfManyWays(t *testing.T) {
	for _, o := range orders() {
		for _, n := range []int{0, 1, 2, 3, 7, 8, 9, 15, 16, 17, 30, 31, 32, 62, 63, 64, 65, 126, 127, 128, 254, 255, 256, 511, 512, 1000} {
			for _, x := range []*tree.Tree[int]{full(n, o.place), worn(n, o.place)} {
				if !slices.Equal(x.Slice(0, n), numbers(n)) {
					t.Fatalf("%s: Slice tells %v", o.name, x.Slice(0, n))
				}
				for from := 0; from <= n; from += 1 + n/60 {
					searches(t, x, from)
				}
				searches(t, x, n-1)
				searches(t, x, n)
			}
		}
	}
}

func TestP11_2ManyElements(t *testing.T) {
	const n = 60000
	x := full(n, atTheBack)
	for from := 0; from <= n; from += 97 {
		searches(t, x, from)
	}
	searches(t, x, 1)
	searches(t, x, n-1)
	searches(t, x, n)
	for i := range n {
		if i%1000 == 0 {
			searches(t, x, x.Len()/3)
		}
		x.EraseAt(x.Len() - 1)
	}
	searches(t, x, 0)
}

// Of several elements that are the same the first one is told.
func TestP11_2SameElements(t *testing.T) {
	x := tree.New[int]()
	for i := range 300 {
		x.InsertAt(i, i/30)
	}
	for v := -1; v <= 10; v++ {
		if got := x.Search(func(w int) bool { return w >= v }); got != max(0, v*30) {
			t.Errorf("Search of %d tells %d", v, got)
		}
		if got := x.Search(func(w int) bool { return w > v }); got != min(300, v*30+30) {
			t.Errorf("Search behind %d tells %d", v, got)
		}
	}
}

// All answers that f may tell of up to eleven elements: where they follow no order it is some place.
func TestP11_2AllAnswers(t *testing.T) {
	for n := range 12 {
		x := full(n, inFront)
		for answers := range 1 << n {
			asked := 0
			got := x.Search(func(v int) bool { asked++; return answers>>v&1 == 1 })
			if got < 0 || got > n || asked > 4*logs(n) {
				t.Fatalf("%d elements, answers %b: Search tells %d, asked %d times", n, answers, got, asked)
			}
			if first := bits.TrailingZeros(uint(answers | 1<<n)); answers>>first == 1<<(n-first)-1 && got != first {
				t.Fatalf("%d elements, answers %b: Search tells %d, wanted %d", n, answers, got, first)
			}
		}
	}
}

func TestP11_2AnswersInNoOrder(t *testing.T) {
	for seed := range 50 {
		for _, n := range []int{1, 8, 9, 63, 64, 200, 999} {
			x := full(n, anywhere())
			b := &both[int]{t: t, tree: x, list: numbers(n), writes: x.Writes()}
			for _, f := range []func(v int) bool{
				func(v int) bool { return v*7919%(seed+2) == 0 },
				func(v int) bool { return v%2 == seed%2 },
				func(v int) bool { return v < seed },
				func(v int) bool { return v == seed },
				func(v int) bool { return v != seed },
			} {
				asked := 0
				got := x.Search(func(v int) bool { asked++; return f(v) })
				if got < 0 || got > n || asked > 4*logs(n) {
					t.Fatalf("%d elements: Search tells %d, asked %d times", n, got, asked)
				}
			}
			b.look()
		}
	}
}

// caught tells what Search panics with.
func caught[T any](x *tree.Tree[T], f func(v T) bool) (out any) {
	defer func() { out = recover() }()
	x.Search(f)
	return nil
}

func TestP11_2Panics(t *testing.T) {
	failed := errors.New("failed")
	for _, n := range []int{1, 2, 7, 8, 9, 40, 64, 65, 300} {
		x := full(n, anywhere())
		b := &both[int]{t: t, tree: x, list: numbers(n), writes: x.Writes()}
		for from := 0; from <= n; from += 1 + n/20 {
			for at := 1; ; at++ {
				asked := 0
				out := caught(x, func(v int) bool {
					if asked++; asked == at {
						panic(failed)
					}
					return v >= from
				})
				if asked < at {
					break
				}
				if out != failed || asked != at {
					t.Fatalf("%d elements: %v comes out, asked %d times of %d", n, out, asked, at)
				}
			}
		}
		b.look()
		for _, v := range []any{7, "text", pair{"a", 1}, api.ErrPlace, &pair{}} {
			if out := caught(x, func(int) bool { panic(v) }); out != v {
				t.Errorf("%v comes out, wanted %v", out, v)
			}
		}
		var none []int
		if out, ok := caught(x, func(v int) bool { return none[v] == 0 }).(runtime.Error); !ok {
			t.Errorf("%v comes out, wanted an error of the language", out)
		}
		b.look()
		b.insert(n/2, -1)
		b.erase(n / 2)
		searches(t, x, n/2)
	}
	if out := caught(tree.New[int](), func(int) bool { panic(7) }); out != nil {
		t.Errorf("f is asked of no element: %v", out)
	}
}

// A question may ask the tree itself, the same question within it too.
func TestP11_2QuestionsThatAskTheTree(t *testing.T) {
	const n = 100
	x := full(n, inTheMiddle)
	b := &both[int]{t: t, tree: x, list: numbers(n), writes: x.Writes()}
	for from := range n + 1 {
		got := x.Search(func(v int) bool {
			w, _ := x.At(v)
			if w != v || x.Search(func(u int) bool { return u >= v }) != v || !slices.Equal(x.Slice(v, v+1), []int{v}) || x.Len() != n {
				t.Fatalf("within Search the tree isn't as it was")
			}
			return v >= from
		})
		if got != from {
			t.Fatalf("Search tells %d, wanted %d", got, from)
		}
	}
	b.look()
}

// bounded does a change, and looks at the bounds alone, for trees too great to be looked at whole each time.
func bounded(t *testing.T, x *tree.Tree[int], change func() api.Errno) {
	t.Helper()
	n, writes := x.Len(), x.Writes()
	if e := change(); e != api.OK {
		t.Fatalf("%d elements: tells %d", n, e)
	}
	if wrote := x.Writes() - writes; wrote < 1 || wrote > api.StepC*logs(n) {
		t.Fatalf("%d elements: wrote %d nodes", n, wrote)
	}
	if fault := heightFault(x.Len(), x.Height()); fault != "" {
		t.Fatal(fault)
	}
}

func TestP11_3LongRowsAtOneEnd(t *testing.T) {
	const n = 5000
	for _, in := range simple() {
		for _, out := range simple() {
			x := tree.New[int]()
			for i := range n {
				bounded(t, x, func() api.Errno { return x.InsertAt(in.place(i, i+1), i) })
				bounded(t, x, func() api.Errno { return x.SetAt(out.place(i, i+1), -i) })
				if x.Len() != i+1 {
					t.Fatalf("%s: Len tells %d of %d", in.name, x.Len(), i+1)
				}
			}
			for i := range n {
				bounded(t, x, func() api.Errno { _, e := x.EraseAt(out.place(i, n-i)); return e })
				if x.Len() != n-1-i {
					t.Fatalf("%s, %s: Len tells %d of %d", in.name, out.name, x.Len(), n-1-i)
				}
			}
			if x.Height() != 0 {
				t.Fatalf("%s, %s: Height tells %d of an empty tree", in.name, out.name, x.Height())
			}
		}
	}
}

// To and fro over the sizes at which nodes split and join.
func TestP11_3ToAndFro(t *testing.T) {
	for _, o := range orders() {
		x := tree.New[int]()
		for size := range 600 {
			bounded(t, x, func() api.Errno { return x.InsertAt(o.place(size, size+1), size) })
			for i := range 3 {
				bounded(t, x, func() api.Errno { _, e := x.EraseAt(o.place(i, size+1)); return e })
				bounded(t, x, func() api.Errno { return x.InsertAt(o.place(size, size+1), size) })
			}
			if x.Len() != size+1 {
				t.Fatalf("%s: Len tells %d of %d", o.name, x.Len(), size+1)
			}
		}
	}
}

// Nodes fill up where elements come in evenly: one with more than Branch of them shows by the height.
func TestP11_3EvenRows(t *testing.T) {
	for gap := 1; gap <= 12; gap++ {
		x := tree.New[int]()
		for place, i := 0, 0; i < 3000; i++ {
			if place > x.Len() {
				place = 0
			}
			bounded(t, x, func() api.Errno { return x.InsertAt(place, i) })
			place += gap + 1
		}
	}
}

func TestP11_3OneNode(t *testing.T) {
	for _, o := range orders() {
		x := tree.New[int]()
		for i := range api.Branch + 1 {
			x.InsertAt(o.place(i, i+1), i)
		}
		if x.Height() < 2 {
			t.Errorf("%s: %d elements stand in one node", o.name, x.Len())
		}
		for x.Len() > 1 {
			x.EraseAt(o.place(0, x.Len()))
		}
		if x.Height() < 1 || x.Height() > 2 {
			t.Errorf("%s: Height tells %d of one element", o.name, x.Height())
		}
	}
}

// Where there is just one node ahead and behind, no more than that one can have been written.
func TestP11_3WritesOfOneNode(t *testing.T) {
	for _, o := range orders() {
		x := tree.New[int]()
		one := func(call string, change func()) {
			height, writes := x.Height(), x.Writes()
			change()
			if height <= 1 && x.Height() == 1 && x.Writes() != writes+1 {
				t.Fatalf("%s: %s wrote %d nodes, there is one", o.name, call, x.Writes()-writes)
			}
		}
		for i := range api.Branch {
			one("InsertAt", func() { x.InsertAt(o.place(i, i+1), i) })
			one("SetAt", func() { x.SetAt(o.place(i, i+1), -i) })
		}
		for x.Len() > 0 {
			one("EraseAt", func() { x.EraseAt(o.place(0, x.Len())) })
		}
	}
}

// What is asked, and what tells an error, writes none.
func TestP11_3OthersWriteNone(t *testing.T) {
	for _, n := range []int{0, 1, 8, 9, 64, 65, 300} {
		x := full(n, anywhere())
		writes, height := x.Writes(), x.Height()
		for i := -3; i < n+3; i++ {
			x.At(i)
			x.Slice(i, n)
			x.Slice(0, i)
			x.Search(func(v int) bool { return v >= i })
			x.Len()
			x.Height()
		}
		for _, i := range outside(n) {
			x.InsertAt(i, -1)
			x.EraseAt(i)
			x.SetAt(i, -1)
		}
		x.EraseAt(n)
		x.SetAt(n, -1)
		if x.Writes() != writes || x.Height() != height || !slices.Equal(x.Slice(0, n), numbers(n)) {
			t.Errorf("%d elements: wrote %d nodes, Height tells %d, was %d", n, x.Writes()-writes, x.Height(), height)
		}
	}
}

// Numbers that come in in no order stand in theirs, where each is put at the place that Search tells.
func TestP11_4InOrder(t *testing.T) {
	for seed := range int64(20) {
		r := rand.New(rand.NewSource(seed))
		b := begin[int](t)
		place := func(v int) int { return b.tree.Search(func(w int) bool { return w >= v }) }
		for range 250 {
			v := r.Intn(1000)
			b.insert(place(v), v)
		}
		if !slices.IsSorted(b.tree.Slice(0, b.tree.Len())) {
			b.fail("Slice tells %v", b.tree.Slice(0, b.tree.Len()))
		}
		for len(b.list) > 0 {
			v := b.list[r.Intn(len(b.list))]
			b.erase(place(v))
			if !slices.IsSorted(b.tree.Slice(0, b.tree.Len())) {
				b.fail("Slice tells %v", b.tree.Slice(0, b.tree.Len()))
			}
		}
	}
}

// At, Slice and EraseAt tell the same of each place.
func TestP11_4AtItsPlace(t *testing.T) {
	for _, o := range orders() {
		x := tree.New[int]()
		for v := range 300 {
			i := o.place(v, v+1)
			ahead, behind := x.Slice(0, i), x.Slice(i, v)
			x.InsertAt(i, v)
			if got, ok := x.At(i); got != v || !ok || !slices.Equal(x.Slice(0, i), ahead) || !slices.Equal(x.Slice(i+1, v+1), behind) {
				t.Fatalf("%s: what was put at %d isn't there, or others aren't as they were", o.name, i)
			}
		}
		for n := 300; n > 0; n-- {
			i := o.place(n, n)
			ahead, behind := x.Slice(0, i), x.Slice(i+1, n)
			want, _ := x.At(i)
			got, e := x.EraseAt(i)
			if got != want || e != api.OK || !slices.Equal(x.Slice(0, n), slices.Concat(ahead, behind)) {
				t.Fatalf("%s: EraseAt(%d) tells %d, %d, or others aren't as they were", o.name, i, got, e)
			}
		}
	}
}

func TestEachTreeIsItsOwn(t *testing.T) {
	a, b := begin[int](t), begin[int](t)
	for i := range 100 {
		a.insert(i/2, i)
		b.look()
		b.insert(0, -i)
		a.look()
	}
	for range 50 {
		a.erase(3)
		b.look()
	}
	begin[int](t)
}

// scribble writes into all of l, and into the room behind it.
func scribble(l []int) {
	l = l[:cap(l)]
	for i := range l {
		l[i] = -9
	}
}

func TestWhatSliceTellsIsNewMemory(t *testing.T) {
	for n := range 100 {
		b := begin[int](t)
		for i := range n {
			b.insert(i, i)
		}
		kept := b.tree.Slice(0, n)
		for from := range n {
			for _, to := range []int{from, from + 1, from + 4, from + 8, n} {
				scribble(b.tree.Slice(from, to))
			}
		}
		scribble(append(b.tree.Slice(0, n), -9))
		b.look()
		b.insert(n/2, -1)
		b.erase(0)
		b.set(0, 5)
		if n > 0 && !slices.Equal(kept, numbers(n)) {
			t.Fatalf("%d elements: what was told is %v", n, kept)
		}
	}
}

// What was told is written into, and the tree changed behind it, by turns.
func TestWhatSliceTellsIsWrittenIntoBetweenChanges(t *testing.T) {
	r := rand.New(rand.NewSource(3))
	b := &both[int]{t: t, tree: tree.New[int]()}
	for i := range 500 {
		n := len(b.list)
		told := b.tree.Slice(r.Intn(n+1)-1, n)
		switch {
		case i%3 == 2 && n > 0:
			b.erase(r.Intn(n))
		case i%7 == 6 && n > 0:
			b.set(r.Intn(n), i)
		default:
			b.insert(r.Intn(n+1), i)
		}
		scribble(told)
		b.look()
	}
}

// overlap tells whether two lists share any room, spare room included.
func overlap(a, b []int) bool {
	if cap(a) == 0 || cap(b) == 0 {
		return false
	}
	size := unsafe.Sizeof(0)
	a1, b1 := uintptr(unsafe.Pointer(unsafe.SliceData(a))), uintptr(unsafe.Pointer(unsafe.SliceData(b)))
	return a1 < b1+uintptr(cap(b))*size && b1 < a1+uintptr(cap(a))*size
}

func TestNoRoomIsShared(t *testing.T) {
	x := full(100, atTheBack)
	var told [][]int
	for from := 0; from < 100; from += 3 {
		told = append(told, x.Slice(from, from+1), x.Slice(from, from+8), x.Slice(from, 100), x.Slice(0, from))
		x.SetAt(from, from)
		x.EraseAt(99)
		x.InsertAt(0, 0)
	}
	for i, a := range told {
		for j := range i {
			if overlap(a, told[j]) {
				t.Fatalf("lists %d and %d share room", j, i)
			}
		}
	}
}

// heavy is more than a few bytes, so that each stands in memory of its own.
type heavy struct{ words [8]int }

// filled tells a tree of pointers, and by which one knows whether each of them is held on to.
func filled(n int) (*tree.Tree[*heavy], []weak.Pointer[heavy]) {
	x := tree.New[*heavy]()
	var l []weak.Pointer[heavy]
	for range n {
		v := &heavy{}
		x.InsertAt(len(l)/2, v)
		l = slices.Insert(l, len(l)/2, weak.Make(v))
	}
	return x, l
}

// freed looks whether none of these is held on to.
func freed(t *testing.T, what string, x *tree.Tree[*heavy], gone []weak.Pointer[heavy]) {
	t.Helper()
	runtime.GC()
	for i, p := range gone {
		if p.Value() != nil {
			t.Fatalf("%s: of %d elements that are out the one that went as number %d is kept", what, len(gone), i)
		}
	}
	runtime.KeepAlive(x)
}

// What is out is held on to by no node, nor by the spare room of one.
func TestWhatIsErasedIsNotKept(t *testing.T) {
	for _, n := range []int{1, 8, 9, 10, 12, 40, 150} {
		for _, o := range orders() {
			x, l := filled(n)
			var gone []weak.Pointer[heavy]
			for i := range n {
				at := o.place(i, n-i)
				x.EraseAt(at)
				gone = append(gone, l[at])
				l = slices.Delete(l, at, at+1)
				if i == 0 || i == 2 || i == n/3 || i == n-1 {
					freed(t, o.name, x, gone)
				}
			}
		}
	}
}

func TestWhatAnotherStandsInsteadOfIsNotKept(t *testing.T) {
	for _, n := range []int{1, 8, 9, 10, 12, 40, 150} {
		for _, step := range []int{1, 2, 9, 17} {
			x, l := filled(n)
			var gone []weak.Pointer[heavy]
			for i := n - 1; i >= 0; i -= step {
				x.SetAt(i, nil)
				gone = append(gone, l[i])
				l[i] = weak.Pointer[heavy]{}
			}
			freed(t, fmt.Sprintf("each of %d, by steps of %d", n, step), x, gone)
			for i, p := range l {
				if v, ok := x.At(i); v != p.Value() || !ok {
					t.Fatalf("At(%d) tells %v", i, v)
				}
			}
		}
	}
}
