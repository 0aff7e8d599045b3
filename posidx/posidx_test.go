package posidx_test

import (
	"fmt"
	"math"
	"math/bits"
	"math/rand"
	"slices"
	"testing"
	"unsafe"

	"rialto/api"
	"rialto/posidx"
	"rialto/tree"
)

// oddIds are numbers at the edges; 0 is one that a row may have.
func oddIds() []int64 {
	return []int64{math.MinInt64, math.MinInt64 + 1, -1 << 32, -256, -2, -1, 0, 1, 2, 255, 1 << 32, 1<<32 + 1, math.MaxInt64 - 1, math.MaxInt64}
}

// outside are numbers that are no places of n rows; n itself is one where something is inserted alone.
func outside(n int) []int {
	return []int{math.MinInt, math.MinInt + 1, math.MinInt32, -1 << 32, -n - 1, -2, -1, n + 1, n + 2, 2*n + 3, 1<<32 + n/2, math.MaxInt32, math.MaxInt - 1, math.MaxInt}
}

// notOf are numbers at which none of n rows stands.
func notOf(n int) []int { return append(outside(n), n) }

// upTo tells 1, 2 .. n.
func upTo(n int) []int64 {
	var l []int64
	for i := range n {
		l = append(l, int64(i+1))
	}
	return l
}

// list is what positions mean: their numbers, in a plain list. Each step tells a list anew.
type list []int64

func (l list) isPlace(i int) bool { return i >= 0 && i < len(l) }

func (l list) with(i int, id int64) list { return slices.Insert(slices.Clone(l), i, id) }

func (l list) without(i int) list { return slices.Delete(slices.Clone(l), i, i+1) }

// insertAt tells what InsertAt(i, id) makes of l, and what it answers.
func (l list) insertAt(i int, id int64) (list, api.Errno) {
	switch {
	case slices.Contains(l, id):
		return l, api.ErrThere
	case i < 0 || i > len(l):
		return l, api.ErrPlace
	}
	return l.with(i, id), api.OK
}

// eraseAt tells what EraseAt(i) makes of l, and what it answers.
func (l list) eraseAt(i int) (list, int64, api.Errno) {
	if !l.isPlace(i) {
		return l, 0, api.ErrPlace
	}
	return l.without(i), l[i], api.OK
}

// move tells what Move(id, to) makes of l, and what it answers.
func (l list) move(id int64, to int) (list, int, api.Errno) {
	at := slices.Index(l, id)
	switch {
	case at < 0:
		return l, 0, api.ErrNoRow
	case !l.isPlace(to):
		return l, 0, api.ErrPlace
	}
	return l.without(at).with(to, id), at, api.OK
}

// swap tells what Swap(i, k) makes of l, and what it answers.
func (l list) swap(i, k int) (list, api.Errno) {
	if !l.isPlace(i) || !l.isPlace(k) {
		return l, api.ErrPlace
	}
	swapped := slices.Clone(l)
	swapped[i], swapped[k] = l[k], l[i]
	return swapped, api.OK
}

// both does each step with positions and with the list beside them, and looks at all that can be told behind it.
type both struct {
	t      *testing.T
	index  *posidx.Index
	means  list
	ids    []int64 // of which it asks Place, those that are there aside
	writes int
	steps  []string
}

func begin(t *testing.T, ids ...int64) *both {
	t.Helper()
	b := &both{t: t, index: posidx.New(), ids: ids}
	b.look()
	return b
}

// filled has l in it already, each put behind all.
func filled(t *testing.T, l ...int64) *both {
	t.Helper()
	b := begin(t, 0, -1, 99)
	for i, id := range l {
		b.insertAt(i, id)
	}
	return b
}

func (b *both) fail(form string, args ...any) {
	b.t.Helper()
	b.t.Fatalf("%v: %s", b.steps[max(0, len(b.steps)-30):], fmt.Sprintf(form, args...))
}

// did takes down the step that was taken, what it told and what the list is behind it, and looks at how many
// nodes it wrote: of as many changes of a tree as are told at most, none beside an error.
func (b *both) did(step string, means list, e api.Errno, changes int) {
	b.t.Helper()
	b.steps = append(b.steps, step)
	had, changed := len(b.means), !slices.Equal(means, b.means)
	b.means = means
	wrote := b.index.Writes() - b.writes
	most := changes * api.StepC * bits.Len(uint(had+1))
	if e != api.OK {
		most = 0
	}
	if wrote < 0 || wrote > most || changed && wrote == 0 {
		b.fail("wrote %d nodes with %d rows, wanted at most %d", wrote, had, most)
	}
	b.writes += wrote
	b.look()
}

func (b *both) insertAt(i int, id int64) {
	b.t.Helper()
	means, want := b.means.insertAt(i, id)
	if got := b.index.InsertAt(i, id); got != want {
		b.fail("InsertAt(%d, %d) tells %d, wanted %d", i, id, got, want)
	}
	b.did(fmt.Sprintf("InsertAt(%d, %d)", i, id), means, want, 1)
}

func (b *both) eraseAt(i int) {
	b.t.Helper()
	means, out, want := b.means.eraseAt(i)
	if got, e := b.index.EraseAt(i); got != out || e != want {
		b.fail("EraseAt(%d) tells %d, %d, wanted %d, %d", i, got, e, out, want)
	}
	b.did(fmt.Sprintf("EraseAt(%d)", i), means, want, 1)
}

func (b *both) move(id int64, to int) {
	b.t.Helper()
	means, at, want := b.means.move(id, to)
	if got, e := b.index.Move(id, to); got != at || e != want {
		b.fail("Move(%d, %d) tells %d, %d, wanted %d, %d", id, to, got, e, at, want)
	}
	b.did(fmt.Sprintf("Move(%d, %d)", id, to), means, want, 2)
}

func (b *both) swap(i, k int) {
	b.t.Helper()
	means, want := b.means.swap(i, k)
	if got := b.index.Swap(i, k); got != want {
		b.fail("Swap(%d, %d) tells %d, wanted %d", i, k, got, want)
	}
	b.did(fmt.Sprintf("Swap(%d, %d)", i, k), means, want, 2)
}

// look asks all that writes no node.
func (b *both) look() {
	b.t.Helper()
	n := len(b.means)
	if got := b.index.Len(); got != n {
		b.fail("Len tells %d, wanted %d", got, n)
	}
	if got := b.index.All(); !slices.Equal(got, b.means) {
		b.fail("All tells %v, wanted %v", got, b.means)
	}
	for i, want := range b.means {
		if got, ok := b.index.At(i); got != want || !ok {
			b.fail("At(%d) tells %d, %t, wanted %d", i, got, ok, want)
		}
		if got, ok := b.index.Place(want); got != i || !ok {
			b.fail("Place(%d) tells %d, %t, wanted %d", want, got, ok, i)
		}
	}
	for _, i := range notOf(n) {
		if got, ok := b.index.At(i); got != 0 || ok {
			b.fail("At(%d) tells %d, %t", i, got, ok)
		}
	}
	for _, id := range b.ids {
		at := slices.Index(b.means, id)
		if got, ok := b.index.Place(id); got != max(at, 0) || ok != (at >= 0) {
			b.fail("Place(%d) tells %d, %t, wanted %d", id, got, ok, at)
		}
	}
	if got := b.index.Writes(); got != b.writes {
		b.fail("Writes tells %d, wanted %d", got, b.writes)
	}
}

// is looks whether the numbers stand so, by the test's own word rather than by the list's.
func (b *both) is(want ...int64) {
	b.t.Helper()
	if got := b.index.All(); !slices.Equal(got, want) {
		b.fail("All tells %v, wanted %v", got, want)
	}
}

func TestErrors(t *testing.T) {
	if api.ErrThere != 72 || api.ErrNoRow != 71 || api.ErrPlace != 73 {
		t.Error("an error has another number")
	}
}

// The rows 1, 2, 3 of the chapter.
func TestP14_1Example(t *testing.T) {
	b := filled(t, 1, 2, 3)
	if at, e := b.index.Move(1, 2); at != 0 || e != api.OK {
		t.Errorf("Move tells %d, %d", at, e)
	}
	b.is(2, 3, 1)
}

func TestP14_1Empty(t *testing.T) {
	b := begin(t, oddIds()...)
	for _, i := range notOf(0) {
		b.eraseAt(i)
		b.swap(i, i)
		b.swap(i, 0)
		b.swap(0, i)
		for _, id := range oddIds() {
			b.move(id, i)
		}
	}
	for _, i := range outside(0) {
		b.insertAt(i, 1)
	}
	if out, e := b.index.EraseAt(0); out != 0 || e != api.ErrPlace {
		t.Errorf("EraseAt tells %d, %d", out, e)
	}
	if at, e := b.index.Move(0, 0); at != 0 || e != api.ErrNoRow {
		t.Errorf("Move tells %d, %d", at, e)
	}
	if e := b.index.Swap(0, 0); e != api.ErrPlace {
		t.Errorf("Swap tells %d", e)
	}
	if b.index.Len() != 0 || len(b.index.All()) != 0 || b.index.Writes() != 0 {
		t.Errorf("Len tells %d, All %v, Writes %d", b.index.Len(), b.index.All(), b.index.Writes())
	}
	b.insertAt(0, 5)
	b.is(5)
}

// One that became empty again is as a new one, but for Writes.
func TestP14_1EmptyAgain(t *testing.T) {
	b := filled(t, 1, 2, 3)
	for _, i := range []int{1, 1, 0} {
		b.eraseAt(i)
	}
	b.is()
	for _, id := range upTo(3) {
		b.move(id, 0)
	}
	b.eraseAt(0)
	b.swap(0, 0)
	b.insertAt(0, 3)
	b.insertAt(0, 1)
	b.is(1, 3)
}

func TestP14_1InsertAt(t *testing.T) {
	b := begin(t, oddIds()...)
	for _, c := range []struct {
		at int
		id int64
	}{{0, 5}, {0, 3}, {2, 9}, {1, 0}, {4, -1}, {3, math.MaxInt64}} {
		b.insertAt(c.at, c.id)
	}
	b.is(3, 0, 5, math.MaxInt64, 9, -1)
	// Each size, at the first place, within, at the last one and behind it.
	for n := range 40 {
		for _, at := range []int{0, n / 2, max(n-1, 0), n} {
			filled(t, upTo(n)...).insertAt(at, 77)
		}
	}
	b = begin(t, oddIds()...)
	for n, id := range oddIds() {
		b.insertAt(n*5%(n+1), id)
	}
	for n := range 60 {
		b.insertAt(n*7%(n+1), int64(1000+n))
	}
}

// ErrThere is told where ErrPlace could be as well.
func TestP14_1InsertAtErrors(t *testing.T) {
	b := filled(t, upTo(6)...)
	for _, i := range append(notOf(6), 0, 2, 3, 5) {
		for _, id := range []int64{1, 3, 6} {
			if e := b.index.InsertAt(i, id); e != api.ErrThere {
				t.Errorf("InsertAt(%d, %d) of one that is there tells %d", i, id, e)
			}
			b.look()
		}
	}
	for _, i := range outside(6) {
		for _, id := range []int64{7, 0, -1} {
			if e := b.index.InsertAt(i, id); e != api.ErrPlace {
				t.Errorf("InsertAt(%d, %d) tells %d", i, id, e)
			}
			b.look()
		}
	}
	// What was refused may come yet.
	b.insertAt(6, 7)
	b.insertAt(0, 0)
	b.is(0, 1, 2, 3, 4, 5, 6, 7)
}

func TestP14_1EraseAt(t *testing.T) {
	b := filled(t, 7, 3, 9, 1, 0)
	for _, c := range []struct {
		at   int
		out  int64
		left []int64
	}{
		{2, 9, []int64{7, 3, 1, 0}},
		{0, 7, []int64{3, 1, 0}},
		{2, 0, []int64{3, 1}}, // the last one
		{1, 1, []int64{3}},
		{0, 3, nil},
	} {
		if out, e := b.index.EraseAt(c.at); out != c.out || e != api.OK {
			t.Errorf("EraseAt(%d) tells %d, %d, wanted %d", c.at, out, e, c.out)
		}
		b.is(c.left...)
		if at, there := b.index.Place(c.out); at != 0 || there {
			t.Errorf("Place of one that is out tells %d, %t", at, there)
		}
	}
	for n := range 40 {
		for at := range n {
			filled(t, upTo(n)...).eraseAt(at)
		}
	}
	// What is out may come again, elsewhere.
	b = filled(t, upTo(4)...)
	b.eraseAt(1)
	b.insertAt(3, 2)
	b.insertAt(0, 2)
	b.is(1, 3, 4, 2)
}

func TestP14_1EraseAtErrors(t *testing.T) {
	// 0 is there, which is also what is told beside an error.
	b := filled(t, 4, 0, 6)
	for _, i := range notOf(3) {
		if out, e := b.index.EraseAt(i); out != 0 || e != api.ErrPlace {
			t.Errorf("EraseAt(%d) tells %d, %d", i, out, e)
		}
		b.look()
		b.insertAt(0, 0)
	}
	b.is(4, 0, 6)
}

// Each of few rows to each place: where it stands, the first one, the last one, those ahead and behind.
func TestP14_1Move(t *testing.T) {
	for n := range 12 {
		for _, id := range append(upTo(n), 99) {
			for to := -2; to < n+3; to++ {
				filled(t, upTo(n)...).move(id, to)
			}
		}
	}
	for _, c := range []struct {
		id   int64
		to   int
		at   int
		want []int64
	}{
		{3, 2, 2, []int64{1, 2, 3, 4, 5}}, // where it stands
		{1, 0, 0, []int64{1, 2, 3, 4, 5}},
		{5, 4, 4, []int64{1, 2, 3, 4, 5}},
		{3, 0, 2, []int64{3, 1, 2, 4, 5}}, // the first place
		{2, 0, 1, []int64{2, 1, 3, 4, 5}},
		{5, 0, 4, []int64{5, 1, 2, 3, 4}},
		{3, 4, 2, []int64{1, 2, 4, 5, 3}}, // the last one
		{4, 4, 3, []int64{1, 2, 3, 5, 4}},
		{1, 4, 0, []int64{2, 3, 4, 5, 1}},
		{2, 3, 1, []int64{1, 3, 4, 2, 5}}, // within, on and back
		{1, 2, 0, []int64{2, 3, 1, 4, 5}},
		{3, 3, 2, []int64{1, 2, 4, 3, 5}},
		{4, 1, 3, []int64{1, 4, 2, 3, 5}},
		{5, 2, 4, []int64{1, 2, 5, 3, 4}},
		{3, 1, 2, []int64{1, 3, 2, 4, 5}},
	} {
		b := filled(t, upTo(5)...)
		if at, e := b.index.Move(c.id, c.to); at != c.at || e != api.OK {
			t.Errorf("Move(%d, %d) tells %d, %d, wanted %d", c.id, c.to, at, e, c.at)
		}
		b.is(c.want...)
	}
}

// ErrNoRow is told where ErrPlace could be as well.
func TestP14_1MoveErrors(t *testing.T) {
	b := filled(t, upTo(5)...)
	for _, to := range append(notOf(5), 0, 1, 4) {
		for _, id := range []int64{9, 0, -1, 6, math.MinInt64, math.MaxInt64} {
			if at, e := b.index.Move(id, to); at != 0 || e != api.ErrNoRow {
				t.Errorf("Move(%d, %d) of none tells %d, %d", id, to, at, e)
			}
			b.look()
		}
	}
	for _, to := range notOf(5) {
		for _, id := range upTo(5) {
			if at, e := b.index.Move(id, to); at != 0 || e != api.ErrPlace {
				t.Errorf("Move(%d, %d) tells %d, %d", id, to, at, e)
			}
			b.look()
		}
	}
	// A single row has a single place.
	b = filled(t, 8)
	b.move(8, 0)
	b.move(8, 1)
	b.move(8, -1)
	b.is(8)
}

// Each place with each: with itself, a neighbour, the first with the last, with one that isn't there.
func TestP14_1Swap(t *testing.T) {
	for n := range 12 {
		for i := -2; i < n+3; i++ {
			for k := -2; k < n+3; k++ {
				filled(t, upTo(n)...).swap(i, k)
			}
		}
	}
	for _, c := range []struct {
		i, k int
		want []int64
	}{
		{0, 0, []int64{1, 2, 3, 4, 5}}, // itself
		{2, 2, []int64{1, 2, 3, 4, 5}},
		{4, 4, []int64{1, 2, 3, 4, 5}},
		{0, 1, []int64{2, 1, 3, 4, 5}}, // neighbours
		{2, 1, []int64{1, 3, 2, 4, 5}},
		{3, 4, []int64{1, 2, 3, 5, 4}},
		{0, 4, []int64{5, 2, 3, 4, 1}}, // the first with the last
		{4, 0, []int64{5, 2, 3, 4, 1}},
		{1, 3, []int64{1, 4, 3, 2, 5}},
		{4, 1, []int64{1, 5, 3, 4, 2}},
	} {
		b := filled(t, upTo(5)...)
		if e := b.index.Swap(c.i, c.k); e != api.OK {
			t.Errorf("Swap(%d, %d) tells %d", c.i, c.k, e)
		}
		b.is(c.want...)
	}
	// Far apart, so that the two stand in nodes of their own.
	b := filled(t, upTo(100)...)
	for i := range 50 {
		b.swap(i, 99-i)
		b.swap(i*37%100, i*61%100)
	}
}

func TestP14_1SwapErrors(t *testing.T) {
	b := filled(t, upTo(5)...)
	for _, i := range notOf(5) {
		for _, k := range append(notOf(5), upToPlaces(5)...) {
			if e := b.index.Swap(i, k); e != api.ErrPlace {
				t.Errorf("Swap(%d, %d) tells %d", i, k, e)
			}
			if e := b.index.Swap(k, i); e != api.ErrPlace {
				t.Errorf("Swap(%d, %d) tells %d", k, i, e)
			}
			b.look()
		}
	}
}

// upToPlaces tells 0, 1 .. n - 1.
func upToPlaces(n int) []int {
	var l []int
	for i := range n {
		l = append(l, i)
	}
	return l
}

func TestP14_1PlaceAndAt(t *testing.T) {
	b := filled(t, 4, 0, 6)
	for i, id := range []int64{4, 0, 6} {
		if at, ok := b.index.Place(id); at != i || !ok {
			t.Errorf("Place(%d) tells %d, %t", id, at, ok)
		}
		if got, ok := b.index.At(i); got != id || !ok {
			t.Errorf("At(%d) tells %d, %t", i, got, ok)
		}
	}
	for _, id := range []int64{1, 2, 3, 5, -4, math.MinInt64, math.MaxInt64} {
		if at, ok := b.index.Place(id); at != 0 || ok {
			t.Errorf("Place(%d) tells %d, %t", id, at, ok)
		}
	}
	for _, i := range notOf(3) {
		if got, ok := b.index.At(i); got != 0 || ok {
			t.Errorf("At(%d) tells %d, %t", i, got, ok)
		}
	}
}

// A row with the number 0 is one as others.
func TestP14_1Nought(t *testing.T) {
	b := filled(t, 1, 0, 2)
	b.move(0, 0)
	b.is(0, 1, 2)
	b.swap(0, 2)
	b.is(2, 1, 0)
	b.move(2, 2)
	b.is(1, 0, 2)
	b.insertAt(0, 0)
	b.eraseAt(1)
	b.is(1, 2)
	b.move(0, 0)
	b.insertAt(2, 0)
	b.is(1, 2, 0)
}

// Writes is that of a tree to which the same happens.
func TestP14_1Writes(t *testing.T) {
	r := rand.New(rand.NewSource(1))
	x, beside := posidx.New(), tree.New[int64]()
	same := func() {
		t.Helper()
		if x.Writes() != beside.Writes() {
			t.Fatalf("Writes tells %d with %d rows, wanted %d", x.Writes(), x.Len(), beside.Writes())
		}
	}
	for id := range int64(500) {
		at := r.Intn(x.Len() + 1)
		x.InsertAt(at, id)
		beside.InsertAt(at, id)
		same()
		if id%3 == 2 {
			at = r.Intn(x.Len())
			x.EraseAt(at)
			beside.EraseAt(at)
			same()
		}
	}
	for x.Len() > 0 {
		at := r.Intn(x.Len())
		x.EraseAt(at)
		beside.EraseAt(at)
		same()
	}
}

// What is asked, and what tells an error, writes none.
func TestP14_1OthersWriteNone(t *testing.T) {
	for _, n := range []int{1, 8, 9, 100} {
		x := posidx.New()
		for i, id := range upTo(n) {
			x.InsertAt(i/2, id)
		}
		writes, all := x.Writes(), x.All()
		for _, i := range notOf(n) {
			x.InsertAt(i, 1)
			x.EraseAt(i)
			x.Move(1, i)
			x.Move(999, i)
			x.Swap(i, 0)
			x.Swap(0, i)
			x.Swap(i, i)
			x.At(i)
			x.Place(int64(i))
			x.Len()
		}
		for _, i := range outside(n) {
			x.InsertAt(i, 999)
		}
		if x.Writes() != writes || !slices.Equal(x.All(), all) {
			t.Errorf("%d rows: Writes grew to %d from %d", n, x.Writes(), writes)
		}
	}
}

// toAndFro looks whether each place tells a number that tells the place, and each number so as well.
func toAndFro(t *testing.T, x *posidx.Index, ids []int64) {
	t.Helper()
	for i := -2; i < x.Len()+3; i++ {
		id, ok := x.At(i)
		if ok != (i >= 0 && i < x.Len()) {
			t.Fatalf("At(%d) of %d rows tells %t", i, x.Len(), ok)
		}
		if at, there := x.Place(id); ok && (at != i || !there) {
			t.Fatalf("at %d stands %d, which stands at %d, %t", i, id, at, there)
		}
	}
	found := 0
	for _, id := range ids {
		at, there := x.Place(id)
		if !there {
			continue
		}
		found++
		if got, ok := x.At(at); got != id || !ok {
			t.Fatalf("%d stands at %d, where %d stands, %t", id, at, got, ok)
		}
	}
	if found != x.Len() {
		t.Fatalf("%d of %d rows have a place", found, x.Len())
	}
}

func TestP14_2ToAndFro(t *testing.T) {
	r := rand.New(rand.NewSource(2))
	ids := append(oddIds(), 3, 4, 5, 6, 7, 8, 9, 10, 11, 12, 13, 14, 15, 16, 17, 18, 19, 20)
	x := posidx.New()
	toAndFro(t, x, ids)
	for range 3000 {
		n, id := x.Len(), ids[r.Intn(len(ids))]
		switch r.Intn(5) {
		case 0, 1:
			x.InsertAt(r.Intn(n+2)-1, id)
		case 2:
			x.EraseAt(r.Intn(n+1) - r.Intn(2))
		case 3:
			x.Move(id, r.Intn(n+1))
		case 4:
			x.Swap(r.Intn(n+1), r.Intn(n+1))
		}
		toAndFro(t, x, ids)
	}
}

// So it is with many rows, wherever they came in.
func TestP14_2ManyRows(t *testing.T) {
	const n = 3000
	ids := upTo(n)
	for name, place := range map[string]func(n, i int) int{
		"first":            func(n, i int) int { return 0 },
		"last":             func(n, i int) int { return n },
		"behind the first": func(n, i int) int { return min(n, 1) },
		"ahead of last":    func(n, i int) int { return max(n-1, 0) },
		"in the middle":    func(n, i int) int { return n / 2 },
		"to and fro":       func(n, i int) int { return n/2 + i%2*(n%2) },
		"by thirds":        func(n, i int) int { return n * (i % 3) / 3 },
	} {
		x := posidx.New()
		var want list
		for i, id := range ids {
			at := place(len(want), i)
			want = slices.Insert(want, at, id)
			if e := x.InsertAt(at, id); e != api.OK {
				t.Fatalf("%s: InsertAt tells %d", name, e)
			}
			if i%487 == 0 {
				toAndFro(t, x, ids)
			}
		}
		if !slices.Equal(x.All(), want) {
			t.Fatalf("%s: All tells %v, wanted %v", name, x.All(), want)
		}
		for i := range n {
			x.Swap(i, place(n-1, i))
			x.Move(ids[i], place(n-1, i*7))
			if i%487 == 0 {
				toAndFro(t, x, ids)
			}
		}
		toAndFro(t, x, ids)
	}
}

// Few rows that are moved round one another for long.
func TestManyMoves(t *testing.T) {
	for n := 1; n < 9; n++ {
		b := filled(t, upTo(n)...)
		for i := range 400 {
			b.move(b.means[0], n-1)
			b.move(b.means[n-1], i%n)
			b.swap(i%n, n-1)
			if i%5 == 0 {
				b.move(b.means[i%n], n/2)
				b.swap(0, n-1)
			}
		}
	}
}

// All ways to take three steps with few rows.
func TestAllShortWays(t *testing.T) {
	var all []func(b *both)
	for i := -1; i < 4; i++ {
		all = append(all, func(b *both) { b.eraseAt(i) }, func(b *both) { b.swap(1, i) }, func(b *both) { b.swap(i, 0) })
		for id := range int64(3) {
			all = append(all, func(b *both) { b.move(id, i) }, func(b *both) { b.insertAt(i, id) })
		}
	}
	for way := range len(all) * len(all) * len(all) {
		b := begin(t, 0, 1, 2, 3)
		b.insertAt(0, 1)
		b.insertAt(1, 3)
		for range 3 {
			all[way%len(all)](b)
			way /= len(all)
		}
	}
}

func TestLongWays(t *testing.T) {
	for seed := range int64(40) {
		r := rand.New(rand.NewSource(seed))
		ids := append(oddIds(), upTo(r.Intn(80))...)
		b := begin(t, ids...)
		for range 300 {
			n := len(b.means)
			id := ids[r.Intn(len(ids))]
			if n > 0 && r.Intn(3) > 0 { // mostly one that is there
				id = b.means[r.Intn(n)]
			}
			switch r.Intn(8) {
			case 0, 1, 2:
				b.insertAt(r.Intn(n+3)-1, ids[r.Intn(len(ids))])
			case 3:
				b.eraseAt(r.Intn(n+2) - 1)
			case 4, 5:
				b.move(id, r.Intn(n+2)-1)
			case 6:
				b.swap(r.Intn(n+2)-1, r.Intn(n+2)-1)
			case 7:
				b.swap(r.Intn(n+1), r.Intn(n+1))
			}
		}
	}
}

// What was done is taken back by what was told.
func TestTakenBack(t *testing.T) {
	r := rand.New(rand.NewSource(3))
	b := filled(t, upTo(50)...)
	for range 200 {
		was := b.index.All()
		i, k := r.Intn(50), r.Intn(50)
		at, _ := b.index.Place(was[i])
		b.move(was[i], k)
		b.move(was[i], at)
		b.is(was...)
		b.eraseAt(i)
		b.insertAt(i, was[i])
		b.is(was...)
		b.insertAt(i, 51)
		b.eraseAt(i)
		b.is(was...)
		b.swap(i, k)
		b.swap(k, i)
		b.is(was...)
		b.swap(i, k)
	}
}

func TestEachIndexIsItsOwn(t *testing.T) {
	a, b := filled(t, 1, 2, 3), filled(t, 3, 1)
	a.move(3, 0)
	b.look()
	b.eraseAt(0)
	a.look()
	b.insertAt(0, 5)
	a.look()
	a.swap(0, 2)
	b.look()
	begin(t, 1, 2, 3, 5)
}

// scribble writes into all of l, and into the room behind it.
func scribble(l []int64, v int64) {
	l = l[:cap(l)]
	for i := range l {
		l[i] = v
	}
}

func TestWhatIsToldIsNewMemory(t *testing.T) {
	for _, n := range []int{3, 8, 9, 20} {
		b := filled(t, upTo(n)...)
		kept := b.index.All()
		scribble(b.index.All(), -9)
		b.look()
		b.move(2, n-1)
		b.swap(0, 1)
		b.insertAt(1, 77)
		b.eraseAt(2)
		scribble(b.index.All(), -9)
		scribble(append(b.index.All(), -9), -9)
		b.look()
		if !slices.Equal(kept, upTo(n)) {
			t.Errorf("an earlier answer is %v", kept)
		}
		scribble(kept, -9)
		b.look()
	}
}

// What was told is written into, and the positions changed behind it, by turns.
func TestWhatIsToldIsWrittenIntoBetweenChanges(t *testing.T) {
	r := rand.New(rand.NewSource(5))
	b := filled(t, upTo(10)...)
	for i := range 200 {
		told, n := b.index.All(), len(b.means)
		switch i % 5 {
		case 0, 1:
			b.insertAt(r.Intn(n+1), int64(100+i))
		case 2:
			b.eraseAt(r.Intn(n))
		case 3:
			b.swap(r.Intn(n), r.Intn(n))
		case 4:
			b.move(b.means[r.Intn(n)], r.Intn(n))
		}
		scribble(told, 5)
		b.look()
	}
}

// overlap tells whether two lists share any room, spare room included.
func overlap(a, b []int64) bool {
	if cap(a) == 0 || cap(b) == 0 {
		return false
	}
	a1, b1 := uintptr(unsafe.Pointer(unsafe.SliceData(a))), uintptr(unsafe.Pointer(unsafe.SliceData(b)))
	return a1 < b1+8*uintptr(cap(b)) && b1 < a1+8*uintptr(cap(a))
}

func TestNoRoomIsShared(t *testing.T) {
	for _, n := range []int{0, 1, 3, 8, 9, 100} {
		x := posidx.New()
		for i, id := range upTo(n) {
			x.InsertAt(i, id)
		}
		told := [][]int64{x.All(), x.All()}
		x.Swap(0, n-1)
		told = append(told, x.All())
		x.Move(1, 0)
		told = append(told, x.All())
		for i, a := range told {
			for k := range i {
				if overlap(a, told[k]) {
					t.Errorf("lists %d and %d of %d rows share room", k, i, n)
				}
			}
		}
	}
}

// What a call tells hangs on what came before alone, not on another run of the same.
func TestTheSameEachTime(t *testing.T) {
	run := func() string {
		x, told := posidx.New(), ""
		r := rand.New(rand.NewSource(4))
		for range 300 {
			told += fmt.Sprintln(x.InsertAt(r.Intn(30), r.Int63n(60)), x.InsertAt(r.Intn(9), r.Int63n(60)), x.Swap(r.Intn(30), r.Intn(9)))
			at, e := x.Move(r.Int63n(60), r.Intn(30))
			told += fmt.Sprintln(at, e, x.Writes())
			out, e := x.EraseAt(r.Intn(60))
			told += fmt.Sprintln(out, e, x.Writes())
		}
		return told + fmt.Sprint(x.All())
	}
	if run() != run() {
		t.Error("the same calls tell otherwise")
	}
}
