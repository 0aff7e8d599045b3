package seqidx_test

import (
	"fmt"
	"math"
	"math/bits"
	"math/rand"
	"slices"
	"testing"
	"unsafe"

	"rialto/api"
	"rialto/seqidx"
	"rialto/tree"
)

// oddIds are numbers at the edges; 0 is one that a row may have, and that Move and Splice read as none.
func oddIds() []int64 {
	return []int64{math.MinInt64, math.MinInt64 + 1, -1 << 32, -256, -2, -1, 0, 1, 2, 255, 1 << 32, 1<<32 + 1, math.MaxInt64 - 1, math.MaxInt64}
}

// outside are numbers that are no places of n rows; n itself is one where something is inserted alone.
func outside(n int) []int {
	return []int{math.MinInt, math.MinInt + 1, math.MinInt32, -1 << 32, -n - 1, -2, -1, n + 1, n + 2, 2*n + 3, 1<<32 + n/2, math.MaxInt32, math.MaxInt - 1, math.MaxInt}
}

// upTo tells 1, 2 .. n.
func upTo(n int) []int64 {
	var l []int64
	for i := range n {
		l = append(l, int64(i+1))
	}
	return l
}

// list is what a sequence means: its numbers, in a plain list.
type list []int64

func (l list) has(id int64) bool { return slices.Contains(l, id) }

// without tells the numbers that aren't among ids.
func (l list) without(ids ...int64) list {
	return slices.DeleteFunc(slices.Clone(l), func(id int64) bool { return slices.Contains(ids, id) })
}

// with tells the numbers with ids right ahead of before, or last, if before is 0.
func (l list) with(ids []int64, before int64) list {
	at := len(l)
	if before != 0 {
		at = slices.Index(l, before)
	}
	return slices.Insert(slices.Clone(l), at, ids...)
}

// move tells what Move(id, before) makes of l, and what it answers.
func (l list) move(id, before int64) (list, int, api.Errno) {
	if !l.has(id) || before != 0 && !l.has(before) {
		return l, 0, api.ErrNoRow
	}
	at := slices.Index(l, id)
	if before == id && before != 0 {
		return l, at, api.OK
	}
	return l.without(id).with([]int64{id}, before), at, api.OK
}

// splice tells what Splice(ids, before) makes of l, and what it answers.
func (l list) splice(ids []int64, before int64) (list, api.Errno) {
	if before != 0 && !l.has(before) {
		return l, api.ErrNoRow
	}
	for _, id := range ids {
		if !l.has(id) {
			return l, api.ErrNoRow
		}
	}
	for i, id := range ids {
		if id == before || slices.Contains(ids[:i], id) {
			return l, api.ErrThere
		}
	}
	return l.without(ids...).with(ids, before), api.OK
}

// both does each step with a sequence and with the list beside it, and looks at all that can be told behind it.
type both struct {
	t      *testing.T
	index  *seqidx.Index
	means  list
	ids    []int64 // of which it asks Place, those that are there aside
	writes int
	steps  []string
}

func begin(t *testing.T, ids ...int64) *both {
	t.Helper()
	b := &both{t: t, index: seqidx.New(), ids: ids}
	b.look()
	return b
}

// filled has l in it already, each put last.
func filled(t *testing.T, l ...int64) *both {
	t.Helper()
	b := begin(t, 0, -1, 99)
	for _, id := range l {
		b.add(id)
	}
	return b
}

func (b *both) fail(form string, args ...any) {
	b.t.Helper()
	b.t.Fatalf("%v: %s", b.steps[max(0, len(b.steps)-30):], fmt.Sprintf(form, args...))
}

// did takes down the step that was taken and what the list is behind it, and looks at how many nodes it wrote:
// of as many changes of a tree as are told at most.
func (b *both) did(step string, means list, changes int) {
	b.t.Helper()
	b.steps = append(b.steps, step)
	had, changed := len(b.means), !slices.Equal(means, b.means)
	b.means = means
	wrote := b.index.Writes() - b.writes
	switch {
	case !changed && wrote != 0:
		b.fail("wrote %d nodes where nothing is changed", wrote)
	case changed && (wrote < 1 || wrote > changes*api.StepC*bits.Len(uint(had+1))):
		b.fail("wrote %d nodes with %d rows", wrote, had)
	}
	b.writes += wrote
	b.look()
}

func (b *both) add(id int64) {
	b.t.Helper()
	means, want := append(slices.Clone(b.means), id), api.OK
	if b.means.has(id) {
		means, want = b.means, api.ErrThere
	}
	if got := b.index.Add(id); got != want {
		b.fail("Add(%d) tells %d, wanted %d", id, got, want)
	}
	b.did(fmt.Sprintf("Add(%d)", id), means, 1)
}

func (b *both) erase(id int64) {
	b.t.Helper()
	at, want := slices.Index(b.means, id), api.OK
	if at < 0 {
		at, want = 0, api.ErrNoRow
	}
	if got, e := b.index.Erase(id); got != at || e != want {
		b.fail("Erase(%d) tells %d, %d, wanted %d, %d", id, got, e, at, want)
	}
	b.did(fmt.Sprintf("Erase(%d)", id), b.means.without(id), 1)
}

func (b *both) move(id, before int64) {
	b.t.Helper()
	means, at, want := b.means.move(id, before)
	if got, e := b.index.Move(id, before); got != at || e != want {
		b.fail("Move(%d, %d) tells %d, %d, wanted %d, %d", id, before, got, e, at, want)
	}
	b.did(fmt.Sprintf("Move(%d, %d)", id, before), means, 2)
}

func (b *both) splice(before int64, ids ...int64) {
	b.t.Helper()
	means, want := b.means.splice(ids, before)
	if got := b.index.Splice(slices.Clone(ids), before); got != want {
		b.fail("Splice(%v, %d) tells %d, wanted %d", ids, before, got, want)
	}
	b.did(fmt.Sprintf("Splice(%v, %d)", ids, before), means, 2*len(ids))
}

func (b *both) insertAt(i int, id int64) {
	b.t.Helper()
	means, want := b.means, api.OK
	switch {
	case b.means.has(id):
		want = api.ErrThere
	case i < 0 || i > len(b.means):
		want = api.ErrPlace
	default:
		means = slices.Insert(slices.Clone(b.means), i, id)
	}
	if got := b.index.InsertAt(i, id); got != want {
		b.fail("InsertAt(%d, %d) tells %d, wanted %d", i, id, got, want)
	}
	b.did(fmt.Sprintf("InsertAt(%d, %d)", i, id), means, 1)
}

// look asks all that writes no node.
func (b *both) look() {
	b.t.Helper()
	n := len(b.means)
	if got := b.index.Len(); got != n {
		b.fail("Len tells %d, wanted %d", got, n)
	}
	if got := b.index.All(); !slices.Equal(got, b.means) {
		b.fail("All tells %v, wanted %v", got, b.means)
	}
	for i, want := range b.means {
		if got, ok := b.index.At(i); got != want || !ok {
			b.fail("At(%d) tells %d, %t, wanted %d", i, got, ok, want)
		}
		if got, ok := b.index.Place(want); got != i || !ok {
			b.fail("Place(%d) tells %d, %t, wanted %d", want, got, ok, i)
		}
	}
	for _, i := range append(outside(n), n) {
		if got, ok := b.index.At(i); got != 0 || ok {
			b.fail("At(%d) tells %d, %t", i, got, ok)
		}
	}
	for _, id := range b.ids {
		at := slices.Index(b.means, id)
		if got, ok := b.index.Place(id); got != max(at, 0) || ok != (at >= 0) {
			b.fail("Place(%d) tells %d, %t, wanted %d", id, got, ok, at)
		}
	}
	if got := b.index.Writes(); got != b.writes {
		b.fail("Writes tells %d, wanted %d", got, b.writes)
	}
}

// is looks whether the numbers stand so, by the test's own word rather than by the list's.
func (b *both) is(want ...int64) {
	b.t.Helper()
	if got := b.index.All(); !slices.Equal(got, want) {
		b.fail("All tells %v, wanted %v", got, want)
	}
}

func TestErrors(t *testing.T) {
	if api.ErrThere != 72 || api.ErrNoRow != 71 || api.ErrPlace != 73 {
		t.Error("an error has another number")
	}
}

// The rows 1, 2, 3 of the chapter.
func TestP13_1Example(t *testing.T) {
	b := filled(t, 1, 2, 3)
	if at, e := b.index.Move(3, 1); at != 2 || e != api.OK {
		t.Errorf("Move tells %d, %d", at, e)
	}
	b.is(3, 1, 2)
}

func TestP13_1Empty(t *testing.T) {
	b := begin(t, oddIds()...)
	for _, id := range oddIds() {
		b.erase(id)
		b.move(id, 0)
		b.move(id, id)
		b.move(id, 1)
		b.splice(0, id)
		b.splice(id)
		b.splice(id, id, id)
	}
	for _, i := range outside(0) {
		b.insertAt(i, 1)
	}
	b.splice(0)
	if b.index.Len() != 0 || len(b.index.All()) != 0 || b.index.Writes() != 0 {
		t.Errorf("Len tells %d, All %v, Writes %d", b.index.Len(), b.index.All(), b.index.Writes())
	}
	if e := b.index.Splice(nil, 1); e != api.ErrNoRow {
		t.Errorf("Splice ahead of what isn't there tells %d", e)
	}
	if e := b.index.Splice(nil, 0); e != api.OK {
		t.Errorf("Splice of none tells %d", e)
	}
	if e := b.index.InsertAt(0, 5); e != api.OK {
		t.Errorf("InsertAt tells %d", e)
	}
}

// A sequence that became empty again is as a new one, but for Writes.
func TestP13_1EmptyAgain(t *testing.T) {
	b := filled(t, 1, 2, 3)
	for _, id := range []int64{2, 3, 1} {
		b.erase(id)
		b.erase(id)
		b.move(id, 0)
	}
	b.is()
	b.add(3)
	b.add(1)
	b.is(3, 1)
}

func TestP13_1Add(t *testing.T) {
	b := begin(t, oddIds()...)
	for _, id := range []int64{5, -3, 4, math.MaxInt64, math.MinInt64, 0, 1} {
		b.add(id)
		b.add(id)
	}
	b.add(5)
	b.is(5, -3, 4, math.MaxInt64, math.MinInt64, 0, 1)
	if e := b.index.Add(4); e != api.ErrThere {
		t.Errorf("Add tells %d", e)
	}
	b.erase(4)
	b.add(4)
	b.is(5, -3, math.MaxInt64, math.MinInt64, 0, 1, 4)
}

func TestP13_1Erase(t *testing.T) {
	b := filled(t, 7, 3, 9, 1, 0)
	if at, e := b.index.Erase(8); at != 0 || e != api.ErrNoRow {
		t.Errorf("Erase of none tells %d, %d", at, e)
	}
	if at, e := b.index.Erase(9); at != 2 || e != api.OK {
		t.Errorf("Erase tells %d, %d", at, e)
	}
	b.is(7, 3, 1, 0)
	if at, e := b.index.Erase(9); at != 0 || e != api.ErrNoRow {
		t.Errorf("Erase of one that is out tells %d, %d", at, e)
	}
	b = filled(t, upTo(40)...)
	for _, id := range []int64{1, 40, 20, 2, 39, 20} {
		b.erase(id)
	}
	for len(b.means) > 0 {
		b.erase(b.means[len(b.means)*2/3])
	}
}

// Each of few rows ahead of each: itself, the next one, the first one, those farther on and back, and last.
func TestP13_1Move(t *testing.T) {
	for n := range 12 {
		l := upTo(n)
		for _, id := range append(l, 99) {
			for _, before := range append(l, 0, 99, -1) {
				filled(t, l...).move(id, before)
			}
		}
	}
	for _, c := range []struct {
		id, before int64
		at         int
		want       []int64
	}{
		{3, 3, 2, []int64{1, 2, 3, 4, 5}}, // itself
		{1, 1, 0, []int64{1, 2, 3, 4, 5}},
		{5, 5, 4, []int64{1, 2, 3, 4, 5}},
		{3, 4, 2, []int64{1, 2, 3, 4, 5}}, // the next one
		{1, 2, 0, []int64{1, 2, 3, 4, 5}},
		{4, 3, 3, []int64{1, 2, 4, 3, 5}}, // the one ahead
		{3, 1, 2, []int64{3, 1, 2, 4, 5}}, // the first one
		{2, 1, 1, []int64{2, 1, 3, 4, 5}},
		{5, 1, 4, []int64{5, 1, 2, 3, 4}},
		{2, 5, 1, []int64{1, 3, 4, 2, 5}},
		{1, 5, 0, []int64{2, 3, 4, 1, 5}},
		{5, 2, 4, []int64{1, 5, 2, 3, 4}},
		{3, 0, 2, []int64{1, 2, 4, 5, 3}}, // last
		{1, 0, 0, []int64{2, 3, 4, 5, 1}},
		{5, 0, 4, []int64{1, 2, 3, 4, 5}},
	} {
		b := filled(t, upTo(5)...)
		if at, e := b.index.Move(c.id, c.before); at != c.at || e != api.OK {
			t.Errorf("Move(%d, %d) tells %d, %d, wanted %d", c.id, c.before, at, e, c.at)
		}
		b.is(c.want...)
	}
}

func TestP13_1MoveErrors(t *testing.T) {
	b := filled(t, upTo(5)...)
	for _, c := range [][2]int64{{9, 1}, {1, 9}, {9, 9}, {9, 0}, {8, 9}, {0, 1}, {0, 0}, {-1, 2}, {2, -1}, {math.MinInt64, math.MaxInt64}} {
		if at, e := b.index.Move(c[0], c[1]); at != 0 || e != api.ErrNoRow {
			t.Errorf("Move(%d, %d) tells %d, %d", c[0], c[1], at, e)
		}
		b.look()
	}
}

// All lists of up to three of few rows, with some that aren't there and some twice, ahead of each and last.
func TestP13_1SpliceAll(t *testing.T) {
	of := append(upTo(5), 99)
	var lists [][]int64
	for _, p := range of {
		for _, q := range of {
			for _, r := range of {
				lists = append(lists, []int64{p, q, r})
			}
			lists = append(lists, []int64{p, q})
		}
		lists = append(lists, []int64{p})
	}
	for _, l := range append(lists, nil) {
		for _, before := range append(of, 0) {
			filled(t, upTo(5)...).splice(before, l...)
		}
	}
}

func TestP13_1Splice(t *testing.T) {
	for _, c := range []struct {
		ids    []int64
		before int64
		want   []int64
	}{
		{nil, 3, []int64{1, 2, 3, 4, 5, 6}},
		{nil, 0, []int64{1, 2, 3, 4, 5, 6}},
		{[]int64{}, 1, []int64{1, 2, 3, 4, 5, 6}},
		{[]int64{4}, 2, []int64{1, 4, 2, 3, 5, 6}},
		{[]int64{2}, 0, []int64{1, 3, 4, 5, 6, 2}},
		{[]int64{3, 4}, 1, []int64{3, 4, 1, 2, 5, 6}}, // next to one another
		{[]int64{4, 3}, 1, []int64{4, 3, 1, 2, 5, 6}},
		{[]int64{2, 3}, 6, []int64{1, 4, 5, 2, 3, 6}},
		{[]int64{5, 1, 3}, 4, []int64{2, 5, 1, 3, 4, 6}}, // not so, from both sides
		{[]int64{1, 6}, 4, []int64{2, 3, 1, 6, 4, 5}},
		{[]int64{6, 1}, 4, []int64{2, 3, 6, 1, 4, 5}},
		{[]int64{2, 3}, 4, []int64{1, 2, 3, 4, 5, 6}}, // where they stand already
		{[]int64{1, 2, 3, 4, 5}, 6, []int64{1, 2, 3, 4, 5, 6}},
		{[]int64{5, 6}, 0, []int64{1, 2, 3, 4, 5, 6}},
		{[]int64{3, 2}, 4, []int64{1, 3, 2, 4, 5, 6}},          // there, the other way round
		{[]int64{6, 5, 4, 2, 1}, 3, []int64{6, 5, 4, 2, 1, 3}}, // all but one
		{[]int64{2, 3, 4, 5, 6}, 1, []int64{2, 3, 4, 5, 6, 1}},
		{[]int64{6, 2, 3, 4, 5}, 0, []int64{1, 6, 2, 3, 4, 5}},
		{[]int64{6, 5, 4, 3, 2, 1}, 0, []int64{6, 5, 4, 3, 2, 1}}, // all
		{[]int64{1, 2, 3, 4, 5, 6}, 0, []int64{1, 2, 3, 4, 5, 6}},
		{[]int64{1, 3, 5}, 0, []int64{2, 4, 6, 1, 3, 5}}, // last
	} {
		b := filled(t, upTo(6)...)
		if e := b.index.Splice(c.ids, c.before); e != api.OK {
			t.Errorf("Splice(%v, %d) tells %d", c.ids, c.before, e)
		}
		b.is(c.want...)
		b = filled(t, upTo(6)...)
		b.splice(c.before, c.ids...)
	}
}

// ErrNoRow is told where ErrThere could be as well.
func TestP13_1SpliceErrors(t *testing.T) {
	b := filled(t, upTo(5)...)
	for _, c := range []struct {
		ids    []int64
		before int64
		want   api.Errno
	}{
		{[]int64{9}, 1, api.ErrNoRow},
		{[]int64{2, 3, 9}, 1, api.ErrNoRow},
		{[]int64{9, 2, 3}, 0, api.ErrNoRow},
		{[]int64{2, 3}, 9, api.ErrNoRow},
		{nil, 9, api.ErrNoRow},
		{nil, -1, api.ErrNoRow},
		{[]int64{0}, 1, api.ErrNoRow},
		{[]int64{0}, 0, api.ErrNoRow},
		{[]int64{2, 2}, 9, api.ErrNoRow},
		{[]int64{2, 2, 9}, 1, api.ErrNoRow},
		{[]int64{9, 9}, 1, api.ErrNoRow},
		{[]int64{9}, 9, api.ErrNoRow},
		{[]int64{1, 9}, 1, api.ErrNoRow},
		{[]int64{2, 2}, 1, api.ErrThere},
		{[]int64{2, 3, 4, 2}, 0, api.ErrThere},
		{[]int64{1}, 1, api.ErrThere},
		{[]int64{3, 4, 1}, 1, api.ErrThere},
		{[]int64{1, 1}, 1, api.ErrThere},
		{[]int64{1, 2, 3, 4, 5}, 3, api.ErrThere},
	} {
		if e := b.index.Splice(c.ids, c.before); e != c.want {
			t.Errorf("Splice(%v, %d) tells %d, wanted %d", c.ids, c.before, e, c.want)
		}
		b.look()
	}
}

func TestP13_1InsertAt(t *testing.T) {
	b := begin(t, oddIds()...)
	for _, c := range []struct {
		at int
		id int64
	}{{0, 5}, {0, 3}, {2, 9}, {1, 0}, {4, -1}, {3, math.MaxInt64}} {
		b.insertAt(c.at, c.id)
	}
	b.is(3, 0, 5, math.MaxInt64, 9, -1)
	for _, i := range append(outside(6), 0, 3, 6) {
		if e := b.index.InsertAt(i, 9); e != api.ErrThere {
			t.Errorf("InsertAt(%d) of one that is there tells %d", i, e)
		}
		b.look()
	}
	for _, i := range outside(6) {
		if e := b.index.InsertAt(i, 7); e != api.ErrPlace {
			t.Errorf("InsertAt(%d) tells %d", i, e)
		}
		b.look()
	}
	for n := range 40 {
		b.insertAt(n*7%(n+1), int64(100+n))
	}
}

func TestP13_1PlaceAndAt(t *testing.T) {
	b := filled(t, 4, 0, 6)
	for i, id := range []int64{4, 0, 6} {
		if at, ok := b.index.Place(id); at != i || !ok {
			t.Errorf("Place(%d) tells %d, %t", id, at, ok)
		}
		if got, ok := b.index.At(i); got != id || !ok {
			t.Errorf("At(%d) tells %d, %t", i, got, ok)
		}
	}
	for _, id := range []int64{1, 2, 3, 5, -4, math.MinInt64, math.MaxInt64} {
		if at, ok := b.index.Place(id); at != 0 || ok {
			t.Errorf("Place(%d) tells %d, %t", id, at, ok)
		}
	}
	for _, i := range append(outside(3), 3) {
		if got, ok := b.index.At(i); got != 0 || ok {
			t.Errorf("At(%d) tells %d, %t", i, got, ok)
		}
	}
}

// A row with the number 0 is one as others; but Move and Splice read a before of 0 as none.
func TestP13_1Nought(t *testing.T) {
	b := filled(t, 1, 0, 2)
	b.move(1, 0)
	b.is(0, 2, 1)
	b.move(0, 0)
	b.is(2, 1, 0)
	b.move(0, 1)
	b.is(2, 0, 1)
	b.splice(0, 2)
	b.is(0, 1, 2)
	b.splice(2, 1, 0)
	b.is(1, 0, 2)
	b.splice(1, 2, 0)
	b.is(2, 0, 1)
	b.splice(0, 2, 0)
	b.is(2, 0, 1)
	if e := b.index.Splice([]int64{2, 0}, 0); e != api.ErrThere {
		t.Errorf("Splice of before itself tells %d", e)
	}
	b.erase(0)
	b.move(0, 0)
	b.is(2, 1)
}

// Writes is that of a tree to which the same happens.
func TestP13_1Writes(t *testing.T) {
	x, beside := seqidx.New(), tree.New[int64]()
	same := func() {
		t.Helper()
		if x.Writes() != beside.Writes() {
			t.Fatalf("Writes tells %d with %d rows, wanted %d", x.Writes(), x.Len(), beside.Writes())
		}
	}
	r := rand.New(rand.NewSource(1))
	for id := range int64(300) {
		x.Add(id)
		beside.InsertAt(beside.Len(), id)
		same()
		at := r.Intn(x.Len() + 1)
		x.InsertAt(at, -id-1)
		beside.InsertAt(at, -id-1)
		same()
	}
	for range 300 {
		id, before := r.Int63n(299)+1, r.Int63n(299)+1
		at, _ := x.Place(id)
		to, _ := x.Place(before)
		if x.Move(id, before); to != at && to != at+1 {
			out, _ := beside.EraseAt(at)
			to, _ = x.Place(id)
			beside.InsertAt(to, out)
		}
		same()
	}
	writes := x.Writes()
	x.Add(5)
	x.InsertAt(0, 5)
	x.InsertAt(-1, 1000)
	x.Erase(1000)
	x.Move(1000, 0)
	x.Splice([]int64{5, 5}, 0)
	x.Splice(x.All(), 0)
	x.Place(5)
	x.At(5)
	if x.Writes() != writes {
		t.Errorf("Writes grew to %d from %d", x.Writes(), writes)
	}
	for x.Len() > 0 {
		id, _ := x.At(r.Intn(x.Len()))
		at, _ := x.Erase(id)
		beside.EraseAt(at)
		same()
	}
}

// What isn't moved keeps its order, whatever is.
func TestP13_2TheOthersStay(t *testing.T) {
	r := rand.New(rand.NewSource(2))
	x := seqidx.New()
	for _, id := range upTo(60) {
		x.InsertAt(r.Intn(x.Len()+1), id)
	}
	for range 2000 {
		was := list(x.All())
		moved := slices.Clone(was)
		r.Shuffle(len(moved), func(i, k int) { moved[i], moved[k] = moved[k], moved[i] })
		before := moved[0]
		if r.Intn(4) == 0 {
			before = 0
		}
		if r.Intn(3) == 0 {
			moved = moved[1:2]
			x.Move(moved[0], before)
		} else {
			moved = moved[1 : 1+r.Intn(len(moved))]
			x.Splice(moved, before)
		}
		is := list(x.All())
		if !slices.Equal(is.without(moved...), was.without(moved...)) {
			t.Fatalf("%v ahead of %d: %v became %v", moved, before, was, is)
		}
		end := len(is)
		if before != 0 {
			end = slices.Index(is, before)
		}
		if !slices.Equal(is[end-len(moved):end], moved) {
			t.Fatalf("%v ahead of %d: %v became %v", moved, before, was, is)
		}
	}
}

// Rows that come and go leave the others in their order as well.
func TestP13_2ComingAndGoing(t *testing.T) {
	b := filled(t, upTo(20)...)
	for id := range int64(60) {
		b.insertAt(int(id)%len(b.means), 100+id)
		b.add(200 + id)
		b.move(100+id/2, 200+id/3)
		b.erase(200 + id/2)
	}
	if got := slices.DeleteFunc(b.index.All(), func(id int64) bool { return id >= 100 }); !slices.Equal(got, upTo(20)) {
		t.Errorf("the first rows stand %v", got)
	}
}

// Rows that are put between the same two, again and again, are found yet: there is always room between two.
func TestManyAtOnePlace(t *testing.T) {
	for name, place := range map[string]func(n, i int) int{
		"first":            func(n, i int) int { return 0 },
		"last":             func(n, i int) int { return n },
		"behind the first": func(n, i int) int { return min(n, 1) },
		"ahead of last":    func(n, i int) int { return max(n-1, 0) },
		"in the middle":    func(n, i int) int { return n / 2 },
		"to and fro":       func(n, i int) int { return n/2 + i%2*(n%2) },
		"by thirds":        func(n, i int) int { return n * (i % 3) / 3 },
	} {
		x := seqidx.New()
		var want list
		for i := range 3000 {
			at := place(len(want), i)
			want = slices.Insert(want, at, int64(i))
			if e := x.InsertAt(at, int64(i)); e != api.OK {
				t.Fatalf("%s: InsertAt tells %d", name, e)
			}
			if i%97 != 0 && i != 2999 {
				continue
			}
			if !slices.Equal(x.All(), want) {
				t.Fatalf("%s: All tells %v, wanted %v", name, x.All(), want)
			}
			for at, id := range want {
				if got, ok := x.Place(id); got != at || !ok {
					t.Fatalf("%s: Place(%d) tells %d, %t, wanted %d", name, id, got, ok, at)
				}
			}
		}
	}
}

// Few rows that are moved round one another for long.
func TestManyMoves(t *testing.T) {
	for n := 2; n < 9; n++ {
		b := filled(t, upTo(n)...)
		for i := range 300 {
			b.move(b.means[0], b.means[n-1])
			b.move(b.means[n-1], b.means[i%n])
			if i%5 == 0 {
				b.splice(b.means[n-1], b.means[1:n-1]...)
				b.move(b.means[i%n], 0)
			}
		}
	}
}

// If places were found by going through all, this would take minutes.
func TestManyRows(t *testing.T) {
	const n = 100_000
	x := seqidx.New()
	for _, id := range upTo(n) {
		x.Add(id)
	}
	for id := int64(1); id <= n; id++ {
		if at, ok := x.Place(id); at != int(id-1) || !ok {
			t.Fatalf("Place(%d) tells %d, %t", id, at, ok)
		}
	}
	// The even ones go ahead of the last one, one by one; then the odd ones, all at once, among them.
	var even, odd []int64
	for id := int64(2); id < n; id += 2 {
		even, odd = append(even, id), append(odd, id+1)
	}
	for _, id := range even {
		if _, e := x.Move(id, n); e != api.OK {
			t.Fatalf("Move(%d) tells %d", id, e)
		}
	}
	if e := x.Splice(odd, even[len(even)/2]); e != api.OK {
		t.Fatalf("Splice tells %d", e)
	}
	want := slices.Concat([]int64{1}, even[:len(even)/2], odd, even[len(even)/2:], []int64{n})
	if !slices.Equal(x.All(), want) {
		t.Fatal("the rows stand otherwise")
	}
	for at, id := range want {
		if got, ok := x.Place(id); got != at || !ok {
			t.Fatalf("Place(%d) tells %d, %t, wanted %d", id, got, ok, at)
		}
	}
}

// All ways to take three steps with few rows.
func TestAllShortWays(t *testing.T) {
	var all []func(b *both)
	ids := []int64{0, 1, 2}
	for _, id := range ids {
		all = append(all, func(b *both) { b.add(id) }, func(b *both) { b.erase(id) })
		all = append(all, func(b *both) { b.splice(id) }, func(b *both) { b.splice(0, id, 3) })
		for _, before := range ids {
			all = append(all, func(b *both) { b.move(id, before) }, func(b *both) { b.splice(before, 3, id) })
		}
	}
	for i := -1; i < 4; i++ {
		all = append(all, func(b *both) { b.insertAt(i, 2) })
	}
	for way := range len(all) * len(all) * len(all) {
		b := begin(t, ids...)
		b.add(1)
		b.add(3)
		for range 3 {
			all[way%len(all)](b)
			way /= len(all)
		}
	}
}

func TestLongWays(t *testing.T) {
	for seed := range int64(40) {
		r := rand.New(rand.NewSource(seed))
		ids := append(oddIds(), upTo(r.Intn(80))...)
		one := func() int64 { return ids[r.Intn(len(ids))] }
		b := begin(t, ids...)
		for range 250 {
			n := len(b.means)
			near := one
			if n > 0 && r.Intn(3) > 0 { // mostly of those that are there
				near = func() int64 { return b.means[r.Intn(n)] }
			}
			switch r.Intn(8) {
			case 0, 1:
				b.add(one())
			case 2:
				b.insertAt(r.Intn(n+3)-1, one())
			case 3:
				b.erase(near())
			case 4, 5:
				b.move(near(), []int64{near(), near(), 0}[r.Intn(3)])
			case 6:
				b.splice([]int64{near(), near(), 0}[r.Intn(3)], near(), near(), near())
			case 7:
				some := slices.Clone(b.means)
				r.Shuffle(n, func(i, k int) { some[i], some[k] = some[k], some[i] })
				some = some[:r.Intn(n+1)]
				b.splice([]int64{near(), near(), 0}[r.Intn(3)], some...)
			}
		}
	}
}

// What was done by number is taken back by place.
func TestTakenBack(t *testing.T) {
	r := rand.New(rand.NewSource(3))
	b := filled(t, upTo(50)...)
	for range 300 {
		was := b.index.All()
		id := was[r.Intn(50)]
		at, _ := b.index.Place(id)
		b.erase(id)
		b.insertAt(at, id)
		b.is(was...)
		b.move(id, was[r.Intn(50)])
		b.erase(id)
		b.insertAt(at, id)
		b.is(was...)
		b.move(id, was[r.Intn(50)])
	}
}

func TestEachSequenceIsItsOwn(t *testing.T) {
	a, b := filled(t, 1, 2, 3), filled(t, 3, 1)
	a.move(3, 1)
	b.look()
	b.erase(3)
	a.look()
	b.add(5)
	a.look()
	a.splice(2, 1, 3)
	b.look()
	begin(t, 1, 2, 3, 5)
}

// scribble writes into all of l, and into the room behind it.
func scribble(l []int64, v int64) {
	l = l[:cap(l)]
	for i := range l {
		l[i] = v
	}
}

func TestWhatIsHandedInStays(t *testing.T) {
	for _, ids := range [][]int64{{}, {4}, {4, 2}, {2, 2}, {9, 2}, {1, 2}, {5, 4, 3, 2}} {
		for _, before := range []int64{1, 0, 9} {
			b := filled(t, upTo(5)...)
			handed := append(slices.Clone(ids), -9, -9)
			b.index.Splice(handed[:len(ids)], before)
			b.index.Move(4, 0)
			b.index.Erase(2)
			scribble(b.index.All(), -5)
			if !slices.Equal(handed, append(slices.Clone(ids), -9, -9)) {
				t.Errorf("Splice(%v, %d): what was handed in is %v", ids, before, handed)
			}
		}
	}
}

func TestWhatIsHandedInIsNotKept(t *testing.T) {
	for _, before := range []int64{1, 0} {
		b := filled(t, upTo(30)...)
		handed := append(make([]int64, 0, 20), 30, 4, 17, 5, 6)
		b.index.Splice(handed, before)
		b.means, _ = b.means.splice([]int64{30, 4, 17, 5, 6}, before)
		b.writes = b.index.Writes()
		scribble(handed, 2)
		b.look()
		b.move(4, 17)
		b.erase(30)
	}
}

func TestWhatIsToldIsNewMemory(t *testing.T) {
	b := filled(t, upTo(20)...)
	kept := b.index.All()
	scribble(b.index.All(), -9)
	b.look()
	b.move(4, 17)
	b.add(21)
	b.erase(2)
	b.splice(1, 5, 9)
	scribble(b.index.All(), -9)
	b.look()
	if !slices.Equal(kept, upTo(20)) {
		t.Errorf("an earlier answer is %v", kept)
	}
	scribble(kept, -9)
	b.look()
}

// What All told may be handed in again.
func TestWhatWasToldIsHandedIn(t *testing.T) {
	b := filled(t, upTo(20)...)
	all := b.index.All()
	slices.Reverse(all)
	b.index.Splice(all, 0)
	b.means, b.writes = slices.Clone(all), b.index.Writes()
	scribble(all, 3)
	b.look()
}

// overlap tells whether two lists share any room, spare room included.
func overlap(a, b []int64) bool {
	if cap(a) == 0 || cap(b) == 0 {
		return false
	}
	a1, b1 := uintptr(unsafe.Pointer(unsafe.SliceData(a))), uintptr(unsafe.Pointer(unsafe.SliceData(b)))
	return a1 < b1+8*uintptr(cap(b)) && b1 < a1+8*uintptr(cap(a))
}

func TestNoRoomIsShared(t *testing.T) {
	for _, n := range []int{0, 1, 3, 8, 9, 100} {
		x := seqidx.New()
		for _, id := range upTo(n) {
			x.Add(id)
		}
		ids := x.All()
		x.Splice(ids, 0)
		a, b := x.All(), x.All()
		if overlap(a, b) || overlap(a, ids) || overlap(b, ids) {
			t.Errorf("lists of %d rows share room", n)
		}
	}
}

// What a call tells hangs on what came before alone, not on another run of the same.
func TestTheSameEachTime(t *testing.T) {
	run := func() string {
		x, told := seqidx.New(), ""
		r := rand.New(rand.NewSource(4))
		for range 300 {
			told += fmt.Sprintln(x.Add(r.Int63n(60)), x.InsertAt(r.Intn(30), r.Int63n(60)), x.Splice([]int64{r.Int63n(60), r.Int63n(60)}, r.Int63n(60)))
			at, e := x.Move(r.Int63n(60), r.Int63n(60))
			told += fmt.Sprintln(at, e, x.Writes())
			at, e = x.Erase(r.Int63n(60))
			told += fmt.Sprintln(at, e, x.Writes())
		}
		return told + fmt.Sprint(x.All())
	}
	if run() != run() {
		t.Error("the same calls tell otherwise")
	}
}
