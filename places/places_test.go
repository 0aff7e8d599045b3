package places_test

import (
	"math"
	"math/rand"
	"slices"
	"testing"

	"rialto/api"
	"rialto/places"
	"rialto/tree"
)

// upTo tells a list of 1, 2 .. n.
func upTo(n int) *places.List {
	l := places.New()
	for i := range n {
		l.InsertAt(i, int64(i+1))
	}
	return l
}

// finds looks whether the numbers stand so, and are found there.
func finds(t *testing.T, l *places.List, want []int64) {
	t.Helper()
	if got := l.All(); l.Len() != len(want) || !slices.Equal(got, want) {
		t.Fatalf("All tells %v, wanted %v", got, want)
	}
	for i, id := range want {
		if got, ok := l.At(i); got != id || !ok {
			t.Fatalf("At(%d) tells %d, %t, wanted %d", i, got, ok, id)
		}
		if at, there := l.Place(id); at != i || !there || !l.Has(id) {
			t.Fatalf("Place(%d) tells %d, %t, wanted %d", id, at, there, i)
		}
	}
}

func TestErrorsChangeNothing(t *testing.T) {
	// 0 is there, which is also what is told beside an error.
	l := places.New()
	for i, id := range []int64{4, 0, 6} {
		l.InsertAt(i, id)
	}
	writes := l.Writes()
	for _, i := range []int{math.MinInt, -1, 4, math.MaxInt} {
		if e := l.InsertAt(i, 7); e != api.ErrPlace {
			t.Errorf("InsertAt(%d) tells %d", i, e)
		}
	}
	for _, i := range []int{math.MinInt, -1, 3, 4, math.MaxInt} {
		if e := l.InsertAt(i, 6); e != api.ErrThere {
			t.Errorf("InsertAt(%d) of one that is there tells %d", i, e)
		}
		if id, e := l.EraseAt(i); id != 0 || e != api.ErrPlace {
			t.Errorf("EraseAt(%d) tells %d, %d", i, id, e)
		}
		for _, k := range []int{0, 2, i} {
			if l.Move(i, k) != api.ErrPlace || l.Move(k, i) != api.ErrPlace || l.Swap(i, k) != api.ErrPlace || l.Swap(k, i) != api.ErrPlace {
				t.Errorf("of %d and %d one is no place", i, k)
			}
		}
		finds(t, l, []int64{4, 0, 6})
	}
	if at, there := l.Place(7); at != 0 || there || l.Has(7) || l.Writes() != writes {
		t.Errorf("Place tells %d, %t, Writes %d", at, there, l.Writes())
	}
}

func TestMoveAndSwap(t *testing.T) {
	for n := range 14 {
		for i := range n {
			for k := range n {
				want := upTo(n).All()
				moved := slices.Insert(slices.Delete(slices.Clone(want), i, i+1), k, want[i])
				l := upTo(n)
				l.Move(i, k)
				finds(t, l, moved)

				want[i], want[k] = want[k], want[i]
				l = upTo(n)
				l.Swap(i, k)
				finds(t, l, want)
			}
		}
	}
}

// Nodes are written by what changes the tree alone: not by what stands so already, nor by other marks.
func TestWrites(t *testing.T) {
	r := rand.New(rand.NewSource(1))
	l, beside := places.New(), tree.New[int64]()
	for id := range int64(2000) {
		at := r.Intn(beside.Len()/20 + 1) // close together, so that marks run out
		l.InsertAt(at, id)
		beside.InsertAt(at, id)
		i, k := r.Intn(l.Len()), r.Intn(l.Len())
		l.Move(i, i)
		l.Swap(k, k)
		if l.Move(i, k); i != k {
			out, _ := beside.EraseAt(i)
			beside.InsertAt(k, out)
		}
		if l.Swap(i, k); i != k {
			a, _ := beside.At(i)
			b, _ := beside.At(k)
			beside.SetAt(i, b)
			beside.SetAt(k, a)
		}
		if l.Writes() != beside.Writes() {
			t.Fatalf("Writes tells %d with %d numbers, wanted %d", l.Writes(), l.Len(), beside.Writes())
		}
	}
	finds(t, l, beside.Slice(0, beside.Len()))
	for l.Len() > 0 {
		at := r.Intn(l.Len())
		l.EraseAt(at)
		beside.EraseAt(at)
		if l.Writes() != beside.Writes() {
			t.Fatalf("Writes tells %d with %d numbers, wanted %d", l.Writes(), l.Len(), beside.Writes())
		}
	}
}

// There is always room between two numbers, however often others came between the same ones.
func TestRoomBetween(t *testing.T) {
	for _, gap := range []int{0, 1, 5, 50} {
		l := upTo(100)
		want := l.All()
		for id := int64(101); id < 3000; id++ {
			at := gap + int(id)%2
			l.InsertAt(at, id)
			want = slices.Insert(want, at, id)
			if id%211 == 0 {
				finds(t, l, want)
				l.Swap(at, len(want)-1)
				want[at], want[len(want)-1] = want[len(want)-1], want[at]
			}
		}
		finds(t, l, want)
	}
}

// If places were found by going through all, this would take minutes.
func TestManyNumbers(t *testing.T) {
	const n = 100_000
	l := upTo(n)
	want := l.All()
	for i := 0; i < n/2; i++ {
		l.Swap(i, n-1-i)
	}
	slices.Reverse(want)
	finds(t, l, want)
	for range n {
		l.Move(n-1, 0)
	}
	finds(t, l, want)
}
