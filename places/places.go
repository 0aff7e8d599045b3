// Package places: numbers at places, none of them twice, each found without going through all. Sequences and
// positions are built on it.
package places

import (
	"math"

	"rialto/api"
	"rialto/tree"
)

// List has its numbers in a tree, as they stand. The tree tells what stands at a place, not where a number
// stands; so each number has a mark beside it, and marks rise from place to place: a number is searched for by
// its mark. Marks aren't in the tree, so that giving a number another one writes no node.
type List struct {
	ids   *tree.Tree[int64]
	marks map[int64]uint64
}

// New tells a list without numbers.
func New() *List {
	return &List{ids: tree.New[int64](), marks: map[int64]uint64{}}
}

// Len tells how many numbers there are.
func (l *List) Len() int { return l.ids.Len() }

// Has tells whether id is there.
func (l *List) Has(id int64) bool {
	_, there := l.marks[id]
	return there
}

// Place tells where id stands.
func (l *List) Place(id int64) (int, bool) {
	mark, there := l.marks[id]
	if !there {
		return 0, false
	}
	return l.ids.Search(func(other int64) bool { return l.marks[other] >= mark }), true
}

// At tells the number at i.
func (l *List) At(i int) (int64, bool) { return l.ids.At(i) }

// All tells the numbers in their order.
func (l *List) All() []int64 { return l.ids.Slice(0, l.Len()) }

// Writes tells how many nodes were written since New.
func (l *List) Writes() int { return l.ids.Writes() }

// InsertAt has id at i, and what stood there and behind it one further.
func (l *List) InsertAt(i int, id int64) api.Errno {
	switch {
	case l.Has(id):
		return api.ErrThere
	case i < 0 || i > l.Len():
		return api.ErrPlace
	}
	l.marks[id] = l.freeMark(i)
	return l.ids.InsertAt(i, id)
}

// EraseAt has the number at i go, and tells it.
func (l *List) EraseAt(i int) (int64, api.Errno) {
	id, e := l.ids.EraseAt(i)
	if e == api.OK {
		delete(l.marks, id)
	}
	return id, e
}

// Move has what stands at from stand at to, and the others as they were. What stands there already writes no node.
func (l *List) Move(from, to int) api.Errno {
	if !l.isPlace(from) || !l.isPlace(to) {
		return api.ErrPlace
	}
	if from == to {
		return api.OK
	}
	id, _ := l.EraseAt(from)
	return l.InsertAt(to, id)
}

// Swap has what stands at i and at k stand the other way round. A place with itself writes no node.
func (l *List) Swap(i, k int) api.Errno {
	if !l.isPlace(i) || !l.isPlace(k) {
		return api.ErrPlace
	}
	if i == k {
		return api.OK
	}
	a, _ := l.At(i)
	b, _ := l.At(k)
	l.ids.SetAt(i, b)
	l.ids.SetAt(k, a)
	// Each takes the mark of the place to which it came, so that marks rise as before.
	l.marks[a], l.marks[b] = l.marks[b], l.marks[a]
	return api.OK
}

func (l *List) isPlace(i int) bool { return i >= 0 && i < l.Len() }

// mark tells that of the number at i. None is as low as what is told ahead of all places, nor as high as
// what is told behind them.
func (l *List) mark(i int) uint64 {
	if i < 0 {
		return 0
	}
	id, there := l.ids.At(i)
	if !there {
		return math.MaxUint64
	}
	return l.marks[id]
}

// freeMark tells one for what comes between the numbers at i - 1 and i.
func (l *List) freeMark(i int) uint64 {
	if l.mark(i)-l.mark(i-1) < 2 {
		l.spread(i)
	}
	low, high := l.mark(i-1), l.mark(i)
	return low + (high-low)/2
}

// spread gives the numbers around i other marks, so that there is room between those at i - 1 and i. The more of
// them it touches, the further apart they must come: else it would soon have to touch as many again.
func (l *List) spread(i int) {
	for width := 1; ; width *= 2 {
		from, to := max(i-width, 0), min(i+width, l.Len())
		low, high := l.mark(from-1), l.mark(to)
		apart := (high - low) / uint64(to-from+1)
		// It ends: all numbers together have room, since there are far fewer of them than marks.
		if apart <= uint64(width) {
			continue
		}
		for _, id := range l.ids.Slice(from, to) {
			low += apart
			l.marks[id] = low
		}
		return
	}
}
