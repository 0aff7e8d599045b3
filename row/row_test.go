package row_test

import (
	"math"
	"math/rand"
	"slices"
	"strconv"
	"strings"
	"testing"
	"unsafe"

	"rialto/api"
	"rialto/row"
	"rialto/sample"
)

const top = int64(1) << 62

// vals are told apart by n.
func vals(n int64) []api.Value {
	return []api.Value{sample.Int(n), sample.Str("v" + strconv.FormatInt(n, 10))}
}

func sameRow(a, b api.Row) bool {
	return a.Id == b.Id && a.Version == b.Version && sample.RowsAlike(a.Vals, b.Vals)
}

// oddIds are numbers that a row hasn't, or hardly ever.
func oddIds() []int64 {
	return []int64{0, -1, -2, math.MinInt64, math.MinInt64 + 1, -1 << 32, 1 << 32, 1<<32 + 1, top - 1, top, top + 1, math.MaxInt64 - 1, math.MaxInt64}
}

// list is what a store means: its rows by Id, in a plain list.
type list struct {
	rows []api.Row
	max  int
	next int64
}

func (l *list) find(id int64) int {
	return slices.IndexFunc(l.rows, func(r api.Row) bool { return r.Id == id })
}

func (l *list) add(r api.Row) {
	l.rows = append(l.rows, r)
	slices.SortFunc(l.rows, func(a, b api.Row) int {
		if a.Id < b.Id {
			return -1
		}
		return 1
	})
}

func (l *list) insert(v []api.Value) (int64, api.Errno) {
	if len(l.rows) == l.max {
		return 0, api.ErrFull
	}
	l.add(api.Row{Id: l.next, Version: 1, Vals: v})
	l.next++
	return l.next - 1, api.OK
}

func (l *list) replace(id int64, v []api.Value) api.Errno {
	i := l.find(id)
	if i < 0 {
		return api.ErrNoRow
	}
	l.rows[i] = api.Row{Id: id, Version: l.rows[i].Version + 1, Vals: v}
	return api.OK
}

func (l *list) erase(id int64) api.Errno {
	i := l.find(id)
	if i < 0 {
		return api.ErrNoRow
	}
	l.rows = slices.Delete(l.rows, i, i+1)
	return api.OK
}

func (l *list) put(r api.Row) api.Errno {
	switch {
	case l.find(r.Id) >= 0, r.Id < 1, r.Id >= l.next:
		return api.ErrThere
	case len(l.rows) == l.max:
		return api.ErrFull
	}
	l.add(r)
	return api.OK
}

func (l *list) setNext(id int64) api.Errno {
	if id < 1 || id > top || slices.ContainsFunc(l.rows, func(r api.Row) bool { return r.Id >= id }) {
		return api.ErrThere
	}
	l.next = id
	return api.OK
}

// both does each step with a store and with the list beside it, and looks at all that can be told behind it.
type both struct {
	t      *testing.T
	store  *row.Store
	means  list
	writes int
	steps  []string
}

// begin makes a store for asked rows, for which there is room for room.
func begin(t *testing.T, asked, room int) *both {
	t.Helper()
	b := &both{t: t, store: row.New(asked), means: list{max: room, next: 1}}
	b.look()
	return b
}

// did holds an error that was told against the one that is meant; what tells OK has written one slot or two, if it writes.
func (b *both) did(step string, got, want api.Errno, writes bool) {
	b.t.Helper()
	b.steps = append(b.steps, step)
	if got != want {
		b.fail("tells %d, wanted %d", got, want)
	}
	least, most := 0, 0
	if writes && want == api.OK {
		least, most = 1, 2
	}
	now := b.store.Writes()
	if now < b.writes+least || now > b.writes+most {
		b.fail("has Writes go from %d to %d", b.writes, now)
	}
	b.writes = now
	b.look()
}

func (b *both) fail(form string, args ...any) {
	b.t.Helper()
	b.t.Fatalf("for %d rows, "+strings.Join(b.steps, ", ")+": "+form, append([]any{b.means.max}, args...)...)
}

func (b *both) look() {
	b.t.Helper()
	if got := b.store.All(); !slices.EqualFunc(got, b.means.rows, sameRow) {
		b.fail("All tells %v, wanted %v", got, b.means.rows)
	}
	if b.store.Len() != len(b.means.rows) || b.store.Next() != b.means.next {
		b.fail("Len tells %d, Next %d, wanted %d, %d", b.store.Len(), b.store.Next(), len(b.means.rows), b.means.next)
	}
	for _, r := range b.means.rows {
		b.get(r.Id)
		b.get(r.Id - 1)
		b.get(r.Id + 1)
	}
	for _, id := range oddIds() {
		b.get(id)
	}
	if b.store.Writes() != b.writes {
		b.fail("looking has Writes go from %d to %d", b.writes, b.store.Writes())
	}
}

func (b *both) get(id int64) {
	b.t.Helper()
	got, ok := b.store.Get(id)
	i := b.means.find(id)
	switch {
	case i < 0 && (ok || got.Id != 0 || got.Version != 0 || len(got.Vals) != 0):
		b.fail("Get(%d) tells %v, %t", id, got, ok)
	case i >= 0 && (!ok || !sameRow(got, b.means.rows[i])):
		b.fail("Get(%d) tells %v, %t, wanted %v", id, got, ok, b.means.rows[i])
	}
}

func (b *both) insert(v []api.Value) int64 {
	b.t.Helper()
	got, e := b.store.Insert(v)
	want, f := b.means.insert(v)
	b.did("Insert", e, f, true)
	if got != want {
		b.fail("tells the Id %d, wanted %d", got, want)
	}
	return got
}

func (b *both) replace(id int64, v []api.Value) {
	b.t.Helper()
	b.did("Replace("+strconv.FormatInt(id, 10)+")", b.store.Replace(id, v), b.means.replace(id, v), true)
}

func (b *both) erase(id int64) {
	b.t.Helper()
	b.did("Erase("+strconv.FormatInt(id, 10)+")", b.store.Erase(id), b.means.erase(id), true)
}

func (b *both) put(id, version int64, v []api.Value) {
	b.t.Helper()
	r := api.Row{Id: id, Version: version, Vals: v}
	b.did("Put("+strconv.FormatInt(id, 10)+")", b.store.Put(r), b.means.put(r), true)
}

func (b *both) setNext(id int64) {
	b.t.Helper()
	b.did("SetNext("+strconv.FormatInt(id, 10)+")", b.store.SetNext(id), b.means.setNext(id), false)
}

// fill inserts n rows.
func (b *both) fill(n int) {
	b.t.Helper()
	for i := range n {
		b.insert(vals(int64(i)))
	}
}

// wants looks whether the rows are just those numbers.
func (b *both) wants(ids ...int64) {
	b.t.Helper()
	var got []int64
	for _, r := range b.store.All() {
		got = append(got, r.Id)
	}
	if !slices.Equal(got, ids) {
		b.fail("the rows are %v, wanted %v", got, ids)
	}
}

func TestErrors(t *testing.T) {
	if api.ErrFull != 70 || api.ErrNoRow != 71 || api.ErrThere != 72 || api.MaxRows != 200 {
		t.Error("an error or a limit has another number")
	}
}

func TestP9_1Example(t *testing.T) {
	s := row.New(5)
	a, _ := s.Insert(vals(1))
	b, _ := s.Insert(vals(2))
	e := s.Erase(1)
	c, _ := s.Insert(vals(3))
	if a != 1 || b != 2 || e != api.OK || c != 3 {
		t.Errorf("the Ids are %d, %d, %d; Erase tells %d", a, b, c, e)
	}
}

func TestP9_1New(t *testing.T) {
	for _, c := range []struct{ asked, room int }{
		{math.MinInt, 0}, {math.MinInt + 1, 0}, {-1 << 32, 0}, {1 - 1<<32, 0}, {-200, 0}, {-2, 0}, {-1, 0}, {0, 0}, {1, 1}, {2, 2}, {3, 3}, {100, 100},
		{198, 198}, {199, 199}, {200, 200}, {201, 200}, {202, 200}, {255, 200}, {256, 200}, {257, 200}, {1 << 31, 200}, {1 << 32, 200}, {1<<32 + 1, 200}, {math.MaxInt - 1, 200}, {math.MaxInt, 200},
	} {
		s := row.New(c.asked)
		if s.Len() != 0 || len(s.All()) != 0 || s.Next() != 1 || s.Writes() != 0 {
			t.Errorf("New(%d) has something in it", c.asked)
		}
		for i := range c.room {
			if id, e := s.Insert(vals(1)); id != int64(i+1) || e != api.OK || s.Len() != i+1 {
				t.Fatalf("New(%d): Insert with %d rows tells %d, %d", c.asked, i, id, e)
			}
		}
		for range 3 {
			if id, e := s.Insert(vals(1)); id != 0 || e != api.ErrFull || s.Len() != c.room || s.Next() != int64(c.room+1) {
				t.Errorf("New(%d): Insert with %d rows tells %d, %d", c.asked, c.room, id, e)
			}
		}
	}
}

func TestP9_1InsertReplaceErase(t *testing.T) {
	b := begin(t, 4, 4)
	b.insert(vals(1))
	b.insert(vals(2))
	b.replace(1, vals(10))
	b.replace(1, vals(11))
	b.replace(2, vals(2))
	b.insert(vals(3))
	b.erase(2)
	b.replace(2, vals(20))
	b.erase(2)
	b.insert(vals(4))
	b.wants(1, 3, 4)
	want := api.Row{Id: 1, Version: 3, Vals: vals(11)}
	if r, ok := b.store.Get(1); !ok || !sameRow(r, want) {
		t.Errorf("Get(1) tells %v, %t", r, ok)
	}
	want = api.Row{Id: 4, Version: 1, Vals: vals(4)}
	if r, ok := b.store.Get(4); !ok || !sameRow(r, want) {
		t.Errorf("Get(4) tells %v, %t", r, ok)
	}
}

// A row has a Version of its own, which counts what was done to it alone, values that stay the same too.
func TestP9_1Versions(t *testing.T) {
	b := begin(t, 3, 3)
	b.fill(3)
	for n := range int64(20) {
		b.replace(2, vals(7))
		for id, want := range map[int64]int64{1: 1, 2: n + 2, 3: 1} {
			if r, _ := b.store.Get(id); r.Version != want {
				t.Fatalf("the row %d has the Version %d, wanted %d", id, r.Version, want)
			}
		}
	}
}

// Vals are kept as they stand: of no shape, no values, floats by their bits, none at all.
func TestP9_1ValsOfAnySort(t *testing.T) {
	many := slices.Repeat([]api.Value{sample.Int(1), sample.Str("x")}, 500)
	long := []api.Value{sample.Str(strings.Repeat("long", 1000))}
	rows := [][]api.Value{nil, {}, {{}}, sample.Rising(), sample.NoValues(), many, long, {sample.Float(sample.LoadedNaN())}, {sample.Float(sample.MinusNought())}}
	b := begin(t, 100, 100)
	for _, v := range rows {
		id := b.insert(v)
		for _, w := range rows {
			b.replace(id, w)
		}
		b.replace(id, v)
		b.erase(id)
		b.put(id, 3, v)
	}
}

func TestP9_1NumbersOfNoRow(t *testing.T) {
	b := begin(t, 5, 5)
	for _, id := range append(oddIds(), 1, 2) {
		b.replace(id, vals(9))
		b.erase(id)
		b.get(id)
	}
	b.fill(5)
	b.erase(2)
	b.erase(5)
	for _, id := range append(oddIds(), 2, 5, 6, 7) {
		b.replace(id, vals(9))
		b.replace(id, nil)
		b.erase(id)
		b.get(id)
	}
	b.wants(1, 3, 4)
	for _, id := range []int64{1, 3, 4} {
		b.erase(id)
	}
	for id := range int64(8) {
		b.replace(id, vals(9))
		b.erase(id)
		b.get(id)
	}
	b.wants()
}

func TestP9_1FullAndOneMore(t *testing.T) {
	for _, n := range []int{1, 2, 3, 10, 200} {
		for _, gone := range []int{1, (n + 1) / 2, n} {
			b := begin(t, n, n)
			b.fill(n)
			b.insert(vals(-1))
			b.replace(int64(gone), vals(-2))
			b.insert(vals(-3))
			b.erase(int64(gone))
			b.insert(vals(-4))
			b.insert(vals(-5))
			b.erase(int64(n + 1))
			b.put(int64(gone), 5, vals(-6))
			b.insert(vals(-7))
			b.put(int64(n+1), 5, vals(-8))
			b.erase(int64(gone))
			b.put(int64(n+1), 5, vals(-9))
			b.insert(vals(-10))
		}
	}
}

func TestP9_1NoRoomAtAll(t *testing.T) {
	for _, asked := range []int{0, -1, math.MinInt} {
		b := begin(t, asked, 0)
		for range 3 {
			b.insert(vals(1))
			b.replace(1, vals(1))
			b.erase(1)
			b.put(1, 1, vals(1))
		}
		b.setNext(3)
		b.insert(vals(1))
		for _, id := range []int64{0, 1, 2, 3, 4} {
			b.put(id, 1, vals(1))
		}
		b.setNext(1)
	}
}

// All stands by Id wherever the rows came to lie.
func TestP9_1AllById(t *testing.T) {
	for seed := range int64(20) {
		r := rand.New(rand.NewSource(seed))
		n := 1 + r.Intn(200)
		s := row.New(n)
		for range n {
			s.Insert(vals(0))
		}
		for _, i := range r.Perm(n) {
			s.Erase(int64(i + 1))
		}
		for _, i := range r.Perm(n) {
			if e := s.Put(api.Row{Id: int64(i + 1), Version: int64(i), Vals: vals(int64(i))}); e != api.OK {
				t.Fatalf("Put of %d tells %d", i+1, e)
			}
		}
		for i, got := range s.All() {
			if !sameRow(got, api.Row{Id: int64(i + 1), Version: int64(i), Vals: vals(int64(i))}) {
				t.Fatalf("row %d of All is %v", i, got)
			}
		}
		if s.Len() != n || len(s.All()) != n {
			t.Fatalf("Len tells %d of %d", s.Len(), n)
		}
	}
}

// Rows far from each other, at both ends of the numbers.
func TestP9_1GreatIds(t *testing.T) {
	b := begin(t, 5, 5)
	b.insert(vals(1))
	b.setNext(1 << 32)
	b.insert(vals(2))
	b.setNext(top)
	b.insert(vals(3))
	b.insert(vals(4))
	b.wants(1, 1<<32, top, top+1)
	b.erase(top)
	b.replace(top+1, vals(5))
	b.put(top, 7, vals(6))
	b.put(1<<32+1, 7, vals(7))
	b.wants(1, 1<<32, 1<<32+1, top, top+1)
}

func TestP9_2PutThere(t *testing.T) {
	b := begin(t, 5, 5)
	b.fill(4)
	b.erase(2)
	for _, id := range append(oddIds(), 1, 3, 4, 5, 6, 7) {
		b.put(id, 9, vals(9))
		if e := b.store.Put(api.Row{Id: id, Version: 9, Vals: vals(9)}); e != api.ErrThere {
			t.Errorf("Put of %d tells %d", id, e)
		}
	}
	b.put(2, 9, vals(9))
	b.put(2, 9, vals(9))
	b.wants(1, 2, 3, 4)
}

// A number just below Next may be given no more; one that is Next, and above it, may be.
func TestP9_2PutAroundNext(t *testing.T) {
	for _, next := range []int64{1, 2, 3, 100, 1 << 32, top - 1, top} {
		b := begin(t, 5, 5)
		b.setNext(next)
		b.put(next+1, 1, vals(1))
		b.put(next, 1, vals(1))
		b.put(next-1, 1, vals(1))
		b.put(next-2, 1, vals(1))
		b.insert(vals(2))
		b.erase(next)
		b.put(next, 1, vals(3))
		b.put(next+1, 1, vals(3))
	}
}

func TestP9_2PutAsItStands(t *testing.T) {
	b := begin(t, 10, 10)
	b.fill(1)
	for _, version := range []int64{1, 0, -1, 2, 77, 1 << 32, math.MinInt64, math.MaxInt64, math.MaxInt64 - 1} {
		for _, v := range [][]api.Value{nil, {}, vals(3), sample.Rising(), sample.NoValues()} {
			b.erase(1)
			b.put(1, version, v)
			want := api.Row{Id: 1, Version: version, Vals: v}
			if r, ok := b.store.Get(1); !ok || !sameRow(r, want) {
				t.Fatalf("Put of %v: Get tells %v, %t", want, r, ok)
			}
			b.replace(1, vals(4))
		}
	}
	b.insert(vals(5))
	b.wants(1, 2)
}

// ErrThere goes ahead of ErrFull.
func TestP9_2PutIntoAFullStore(t *testing.T) {
	for _, n := range []int{1, 2, 200} {
		b := begin(t, n, n)
		b.fill(n)
		b.erase(1)
		b.insert(vals(1))
		for _, id := range append(oddIds(), 2, int64(max(2, n)), int64(n+1), int64(n+2), int64(n+3)) {
			b.put(id, 1, vals(2))
			if e := b.store.Put(api.Row{Id: id}); e != api.ErrThere {
				t.Errorf("Put of %d tells %d", id, e)
			}
		}
		b.put(1, 1, vals(2))
		if e := b.store.Put(api.Row{Id: 1}); e != api.ErrFull {
			t.Errorf("Put of 1 tells %d", e)
		}
		b.erase(int64(n + 1))
		b.put(1, 1, vals(2))
		b.put(int64(n+1), 1, vals(3))
	}
	if e := row.New(0).Put(api.Row{Id: 1, Version: 1}); e != api.ErrThere {
		t.Errorf("Put of a number that may be given yet, where is no room, tells %d", e)
	}
}

// An Erase is taken back by a Put, an Insert by an Erase and a SetNext.
func TestP9_2BackAgain(t *testing.T) {
	b := begin(t, 3, 3)
	b.fill(3)
	b.replace(2, vals(22))
	for id := range int64(4) {
		r, ok := b.store.Get(id)
		b.erase(id)
		if ok {
			b.put(id, r.Version, r.Vals)
		}
	}
	b.erase(3)
	b.setNext(3)
	b.insert(vals(33))
	b.wants(1, 2, 3)
}

func TestP9_2SetNext(t *testing.T) {
	for _, c := range []struct {
		id   int64
		want api.Errno
	}{
		{math.MinInt64, api.ErrThere}, {-1 << 32, api.ErrThere}, {-1, api.ErrThere}, {0, api.ErrThere}, {1, api.OK}, {2, api.OK}, {1 << 32, api.OK}, {1 << 61, api.OK},
		{top - 1, api.OK}, {top, api.OK}, {top + 1, api.ErrThere}, {top + 2, api.ErrThere}, {2*(top-1) + 1, api.ErrThere}, {math.MaxInt64, api.ErrThere},
	} {
		b := begin(t, 3, 3)
		if e := b.store.SetNext(c.id); e != c.want {
			t.Errorf("SetNext(%d) tells %d", c.id, e)
		}
		b.means.setNext(c.id)
		b.look()
		b.insert(vals(1))
		b.insert(vals(2))
		b.put(b.means.next-1, 1, nil)
	}
}

// Only the rows that are there stand in the way, and of these the greatest.
func TestP9_2SetNextAboveTheRows(t *testing.T) {
	b := begin(t, 5, 5)
	b.fill(5)
	for id := range int64(6) {
		b.setNext(id)
		if b.store.Next() != 6 {
			t.Fatalf("SetNext(%d) has Next be %d", id, b.store.Next())
		}
	}
	b.setNext(6)
	b.setNext(9)
	b.erase(5)
	b.setNext(4)
	b.setNext(5)
	b.erase(2)
	b.setNext(2)
	b.setNext(4)
	b.setNext(5)
	b.insert(vals(55))
	b.wants(1, 3, 4, 5)
	for _, id := range []int64{5, 4, 3, 1} {
		b.erase(id)
		b.setNext(0)
		b.setNext(id)
		b.setNext(id - 1)
	}
	b.setNext(1)
	b.insert(vals(1))
	b.wants(1)
}

// The greatest row isn't always the one that came last.
func TestP9_2SetNextBesideAPut(t *testing.T) {
	b := begin(t, 5, 5)
	b.setNext(100)
	for _, id := range []int64{50, 90, 10} {
		b.put(id, 1, vals(id))
	}
	for _, id := range []int64{9, 10, 11, 50, 51, 89, 90} {
		b.setNext(id)
		if e := b.store.SetNext(id); e != api.ErrThere {
			t.Errorf("SetNext(%d) tells %d", id, e)
		}
	}
	b.setNext(91)
	b.put(91, 1, vals(91))
	b.insert(vals(91))
	b.wants(10, 50, 90, 91)
}

// Behind the last number that SetNext takes Insert goes on, and no way leads back past a row.
func TestP9_2SetNextBehindTheTop(t *testing.T) {
	b := begin(t, 5, 5)
	b.setNext(top)
	b.insert(vals(1))
	for _, id := range []int64{1, top - 1, top, top + 1, top + 2, math.MaxInt64} {
		b.setNext(id)
		if e := b.store.SetNext(id); e != api.ErrThere {
			t.Errorf("SetNext(%d) tells %d", id, e)
		}
	}
	b.insert(vals(2))
	b.wants(top, top+1)
	b.erase(top + 1)
	b.setNext(top)
	b.erase(top)
	b.setNext(top)
	b.insert(vals(3))
	b.wants(top)
}

// The one or two that a call writes are the same ones each time: nothing grows with the rows or with what came ahead.
func TestP9_3Writes(t *testing.T) {
	s := row.New(200)
	steps := []func(id int64) api.Errno{
		func(id int64) api.Errno { _, e := s.Insert(vals(id)); return e },
		func(id int64) api.Errno { return s.Replace(id, vals(-id)) },
		func(id int64) api.Errno { return s.Replace(id, vals(-id)) },
		func(id int64) api.Errno { return s.Erase(id) },
		func(id int64) api.Errno { return s.Put(api.Row{Id: id, Version: 4, Vals: vals(id)}) },
	}
	for id := int64(1); id <= 200; id++ {
		for i, step := range steps {
			was := s.Writes()
			if e := step(id); e != api.OK || s.Writes() < was+1 || s.Writes() > was+2 {
				t.Fatalf("step %d of the row %d tells %d, Writes goes from %d to %d", i, id, e, was, s.Writes())
			}
		}
	}
	if n := s.Writes(); n < 1000 || n > 2000 {
		t.Errorf("Writes tells %d behind 1000", n)
	}
}

func TestP9_3OthersWriteNone(t *testing.T) {
	s := row.New(3)
	for range 3 {
		s.Insert(vals(1))
	}
	s.SetNext(10)
	was := s.Writes()
	for name, call := range map[string]func(){
		"Insert into a full store":        func() { s.Insert(vals(1)) },
		"Replace of no row":               func() { s.Replace(4, vals(1)) },
		"Erase of no row":                 func() { s.Erase(4) },
		"Put of a row that is there":      func() { s.Put(api.Row{Id: 1}) },
		"Put of a number below 1":         func() { s.Put(api.Row{}) },
		"Put of a number that may come":   func() { s.Put(api.Row{Id: s.Next()}) },
		"Put into a full store":           func() { s.Put(api.Row{Id: 4}) },
		"SetNext":                         func() { s.SetNext(s.Next() + 1) },
		"SetNext of what it was":          func() { s.SetNext(s.Next()) },
		"SetNext of a row's number":       func() { s.SetNext(3) },
		"Get":                             func() { s.Get(1) },
		"Get of no row":                   func() { s.Get(4) },
		"All":                             func() { s.All() },
		"Len":                             func() { s.Len() },
		"Next":                            func() { s.Next() },
		"Writes":                          func() { s.Writes() },
		"Insert in another store":         func() { row.New(1).Insert(vals(1)) },
		"writing into what Get tells":     func() { r, _ := s.Get(1); r.Vals[0] = sample.Int(9) },
		"writing into what All tells":     func() { s.All()[0] = api.Row{} },
		"SetNext of a number beyond 2^62": func() { s.SetNext(top + 1) },
	} {
		call()
		if s.Writes() != was {
			t.Errorf("%s has Writes go from %d to %d", name, was, s.Writes())
		}
	}
}

// No number is given twice, whatever goes, comes back or doesn't come at all.
func TestP9_4NumbersRise(t *testing.T) {
	for seed := range int64(30) {
		r := rand.New(rand.NewSource(seed))
		s := row.New(1 + r.Intn(8))
		given := int64(0)
		for range 2000 {
			switch r.Intn(5) {
			case 0, 1:
				id, e := s.Insert(vals(1))
				if e == api.OK && id != given+1 || e != api.OK && id != 0 {
					t.Fatalf("behind %d Insert tells %d, %d", given, id, e)
				}
				given = max(given, id)
			case 2:
				s.Erase(given - r.Int63n(8))
			case 3:
				s.Put(api.Row{Id: given + 2 - r.Int63n(8), Version: 1})
			case 4:
				s.Replace(given-r.Int63n(8), nil)
			}
			if s.Next() != given+1 {
				t.Fatalf("behind %d Next tells %d", given, s.Next())
			}
		}
	}
}

// A number that is gone isn't given again, unless SetNext has it be.
func TestP9_4NumbersThatAreGone(t *testing.T) {
	b := begin(t, 2, 2)
	for id := int64(1); id <= 20; id++ {
		if got := b.insert(vals(id)); got != id {
			t.Fatalf("Insert tells %d, wanted %d", got, id)
		}
		b.erase(id)
	}
	for range 3 {
		b.setNext(5)
		if got := b.insert(vals(5)); got != 5 {
			t.Fatalf("Insert behind SetNext(5) tells %d", got)
		}
		b.erase(5)
	}
	if got := b.insert(vals(6)); got != 6 {
		t.Fatalf("Insert tells %d, wanted 6", got)
	}
}

// steps are one of each call at each number that matters in a small store.
func steps() []func(b *both) {
	l := []func(b *both){
		func(b *both) { b.insert(vals(int64(len(b.steps)))) },
		func(b *both) { b.replace(b.means.next-1, vals(int64(len(b.steps)))) },
		func(b *both) { b.erase(b.means.next - 1) },
		func(b *both) { b.put(b.means.next-1, 5, vals(int64(len(b.steps)))) },
		func(b *both) { b.put(b.means.next, 5, vals(int64(len(b.steps)))) },
		func(b *both) { b.setNext(b.means.next + 1) },
		func(b *both) { b.setNext(b.means.next - 1) },
	}
	for id := int64(1); id <= 2; id++ {
		l = append(l,
			func(b *both) { b.replace(id, vals(int64(len(b.steps)))) },
			func(b *both) { b.erase(id) },
			func(b *both) { b.put(id, 5, vals(int64(len(b.steps)))) },
			func(b *both) { b.setNext(id) },
		)
	}
	return l
}

// All ways to take four steps, of stores of up to two rows.
func TestAllShortWays(t *testing.T) {
	all := steps()
	for room := range 3 {
		for way := range len(all) * len(all) * len(all) * len(all) {
			b := begin(t, room, room)
			for range 4 {
				all[way%len(all)](b)
				way /= len(all)
			}
		}
	}
}

func TestLongWays(t *testing.T) {
	for seed := range int64(60) {
		r := rand.New(rand.NewSource(seed))
		room := []int{1, 2, 5, 20, 60}[r.Intn(5)]
		b := begin(t, room, room)
		inserts := 1 + r.Intn(5)
		for n := range int64(600) {
			// Numbers near Next, and far below and above it, those of rows that are there among them.
			id := b.means.next - r.Int63n(int64(room)+5) + 2
			if len(b.means.rows) > 0 && r.Intn(3) == 0 {
				id = b.means.rows[r.Intn(len(b.means.rows))].Id
			} else if r.Intn(20) == 0 {
				id = oddIds()[r.Intn(8)]
			}
			switch r.Intn(7 + inserts) {
			case 0, 1:
				b.replace(id, vals(n))
			case 2, 3:
				b.erase(id)
			case 4, 5:
				b.put(id, r.Int63n(9), vals(n))
			case 6:
				b.setNext(id)
			default:
				b.insert(vals(n))
			}
			b.steps = b.steps[max(0, len(b.steps)-30):]
		}
	}
}

func TestEachStoreIsItsOwn(t *testing.T) {
	a, b := begin(t, 2, 2), begin(t, 5, 5)
	for n := range int64(6) {
		a.insert(vals(n))
		b.insert(vals(-n))
		b.look()
		a.look()
	}
	a.erase(1)
	b.replace(1, vals(100))
	a.setNext(50)
	b.look()
	a.put(1, 3, vals(3))
	b.look()
	begin(t, 3, 3)
}

// spared has v and behind it, in the same memory, room that is written.
func spared(v []api.Value) []api.Value {
	l := append(slices.Clone(v), sample.Int(-9), sample.Int(-9))
	return l[:len(v)]
}

// scribble writes into all of l, and into the room behind it.
func scribble(l []api.Value) {
	l = l[:cap(l)]
	for i := range l {
		l[i] = sample.Str("written")
	}
}

func TestWhatIsHandedInStays(t *testing.T) {
	for name, call := range map[string]func(s *row.Store, v []api.Value) api.Errno{
		"Insert":                     func(s *row.Store, v []api.Value) api.Errno { _, e := s.Insert(v); return e },
		"Replace":                    func(s *row.Store, v []api.Value) api.Errno { return s.Replace(1, v) },
		"Put":                        func(s *row.Store, v []api.Value) api.Errno { return s.Put(api.Row{Id: 2, Vals: v}) },
		"Replace of no row":          func(s *row.Store, v []api.Value) api.Errno { return s.Replace(9, v) - api.ErrNoRow },
		"Put of a row that is there": func(s *row.Store, v []api.Value) api.Errno { return s.Put(api.Row{Id: 1, Vals: v}) - api.ErrThere },
	} {
		s := row.New(2)
		s.Insert(vals(1))
		s.SetNext(5)
		v := spared(vals(4))
		e := call(s, v)
		s.Replace(1, vals(5))
		s.Erase(2)
		s.Insert(vals(6))
		if e != api.OK || !sample.RowsAlike(v[:4], append(vals(4), sample.Int(-9), sample.Int(-9))) {
			t.Errorf("%s tells %d; the values that were handed in are %v", name, e, v[:4])
		}
	}
}

func TestWhatIsHandedInIsNotKept(t *testing.T) {
	for n := range 4 {
		v := sample.Rising()[:n]
		b := begin(t, 3, 3)
		for _, call := range []func(v []api.Value){
			func(v []api.Value) { b.store.Insert(v); b.means.insert(slices.Clone(v)) },
			func(v []api.Value) { b.store.Insert(v); b.means.insert(slices.Clone(v)) },
			func(v []api.Value) { b.store.Replace(2, v); b.means.replace(2, slices.Clone(v)) },
			func(v []api.Value) { b.store.Erase(1); b.means.erase(1) },
			func(v []api.Value) {
				b.store.Put(api.Row{Id: 1, Vals: v})
				b.means.put(api.Row{Id: 1, Vals: slices.Clone(v)})
			},
		} {
			handed := spared(v)
			call(handed)
			scribble(handed)
			b.writes = b.store.Writes()
			b.look()
		}
	}
}

func TestWhatIsToldIsNewMemory(t *testing.T) {
	b := begin(t, 3, 3)
	b.insert(vals(1))
	b.insert(nil)
	b.insert(sample.Rising())
	kept := b.store.All()
	one, _ := b.store.Get(1)
	for id := range int64(5) {
		r, _ := b.store.Get(id)
		scribble(r.Vals)
		b.look()
	}
	all := b.store.All()
	for _, r := range all {
		scribble(r.Vals)
	}
	all = all[:cap(all)]
	for i := range all {
		all[i] = api.Row{Id: -1, Version: -1, Vals: vals(-1)}
	}
	b.look()
	if !slices.EqualFunc(kept, b.means.rows, sameRow) || !sameRow(one, b.means.rows[0]) {
		t.Error("an earlier answer is touched by what is done with a later one")
	}
}

// What was told stays as it was, whatever comes of the rows.
func TestWhatWasToldStays(t *testing.T) {
	b := begin(t, 2, 2)
	b.fill(2)
	all := b.store.All()
	one, _ := b.store.Get(1)
	want := slices.Clone(b.means.rows)
	b.replace(1, vals(10))
	b.erase(2)
	b.insert(vals(30))
	b.erase(1)
	b.put(1, 7, vals(40))
	if !slices.EqualFunc(all, want, sameRow) || !sameRow(one, want[0]) {
		t.Errorf("what was told is %v and %v", all, one)
	}
}

// A row's own values may be handed in again.
func TestWhatWasToldIsHandedIn(t *testing.T) {
	b := begin(t, 3, 3)
	b.fill(2)
	r, _ := b.store.Get(1)
	b.replace(1, r.Vals)
	b.replace(2, b.store.All()[0].Vals)
	b.insert(r.Vals)
	scribble(r.Vals)
	for id := int64(1); id <= 3; id++ {
		if got, _ := b.store.Get(id); !sample.RowsAlike(got.Vals, vals(0)) {
			t.Errorf("the row %d is %v", id, got)
		}
	}
}

// overlap tells whether two lists share any room, spare room included.
func overlap(a, b []api.Value) bool {
	if cap(a) == 0 || cap(b) == 0 {
		return false
	}
	size := unsafe.Sizeof(api.Value{})
	a1, b1 := uintptr(unsafe.Pointer(unsafe.SliceData(a))), uintptr(unsafe.Pointer(unsafe.SliceData(b)))
	return a1 < b1+uintptr(cap(b))*size && b1 < a1+uintptr(cap(a))*size
}

func TestNoRoomIsShared(t *testing.T) {
	s := row.New(20)
	v := spared(vals(1))
	for range 20 {
		s.Insert(v)
	}
	lists := [][]api.Value{v}
	for _, r := range append(s.All(), s.All()...) {
		lists = append(lists, r.Vals)
	}
	for id := int64(1); id <= 20; id++ {
		r, _ := s.Get(id)
		lists = append(lists, r.Vals)
	}
	for i, a := range lists {
		for j := range i {
			if overlap(a, lists[j]) {
				t.Errorf("lists %d and %d share room", j, i)
			}
		}
	}
}

// A short text that is a piece of a long one doesn't keep all of it.
func TestNoTextIsHeldOnTo(t *testing.T) {
	text := strings.Repeat("long", 1000)
	v := []api.Value{sample.Str(text[:4])}
	s := row.New(3)
	s.Insert(v)
	s.Insert(vals(2))
	s.Replace(2, v)
	s.SetNext(4)
	s.Put(api.Row{Id: 3, Vals: v})
	for _, r := range s.All() {
		if got := r.Vals[0].Str; got != "long" || unsafe.StringData(got) == unsafe.StringData(text) {
			t.Errorf("the row %d has a piece of the text that was handed in", r.Id)
		}
	}
	if s.Len() != 3 {
		t.Errorf("Len tells %d", s.Len())
	}
}

// Calls by their methods' values are calls of the store they were taken of.
func TestMethodValues(t *testing.T) {
	s, other := row.New(2), row.New(2)
	insert, erase, length := s.Insert, s.Erase, s.Len
	other.Insert(vals(1))
	if id, e := insert(vals(1)); id != 1 || e != api.OK || length() != 1 {
		t.Errorf("Insert tells %d, %d, Len %d", id, e, length())
	}
	if e := erase(1); e != api.OK || length() != 0 || other.Len() != 1 {
		t.Errorf("Erase tells %d, Len %d and %d", e, length(), other.Len())
	}
}

// A Version beyond the greatest number goes round, as numbers of the language do; nothing panics.
func TestVersionsGoRound(t *testing.T) {
	b := begin(t, 1, 1)
	b.fill(1)
	b.erase(1)
	b.put(1, math.MaxInt64-1, vals(1))
	for _, want := range []int64{math.MaxInt64, math.MinInt64, math.MinInt64 + 1} {
		b.replace(1, vals(2))
		if r, _ := b.store.Get(1); r.Version != want {
			t.Errorf("the Version is %d, wanted %d", r.Version, want)
		}
	}
}
