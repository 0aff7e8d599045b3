package code_test

import (
	"bytes"
	"encoding/binary"
	"math"
	"math/rand"
	"slices"
	"strings"
	"testing"

	"rialto/api"
	"rialto/code"
	"rialto/sample"
	"rialto/value"
)

// written tells by the chapter's words what Put must tell of one value.
func written(v api.Value) []byte {
	head := []byte{byte(v.Kind)}
	switch v.Kind {
	case api.Int:
		return binary.BigEndian.AppendUint64(head, uint64(v.Int)^1<<63)
	case api.Bool:
		return append(head, byte(v.Int))
	case api.Float:
		n := math.Float64bits(v.F)
		if n>>63 == 0 {
			return binary.BigEndian.AppendUint64(head, n|1<<63)
		}
		return binary.BigEndian.AppendUint64(head, ^n)
	}
	return append(append(head, strings.ReplaceAll(v.Str, "\x00", "\x00\xFF")...), 0, 1)
}

func put(t *testing.T, l []api.Value) []byte {
	t.Helper()
	b, e := code.Put(l)
	if e != api.OK {
		t.Fatalf("Put(%v) erred with %d", l, e)
	}
	return b
}

// refuse asks Get and Whole of bytes that stand for no values.
func refuse(t *testing.T, b []byte) {
	t.Helper()
	if l, e := code.Get(b); e != api.ErrCode || len(l) != 0 {
		t.Errorf("Get(% x) tells %v, %d", b, l, e)
	}
	if code.Whole(b) {
		t.Errorf("Whole(% x)", b)
	}
}

func TestP3_1BytesOfEachKind(t *testing.T) {
	for _, c := range []struct {
		l    []api.Value
		want string
	}{
		{nil, ""},
		{[]api.Value{}, ""},
		{[]api.Value{sample.Int(0)}, "\x01\x80\x00\x00\x00\x00\x00\x00\x00"},
		{[]api.Value{sample.Int(-1)}, "\x01\x7F\xFF\xFF\xFF\xFF\xFF\xFF\xFF"},
		{[]api.Value{sample.Int(0x0102030405060708)}, "\x01\x81\x02\x03\x04\x05\x06\x07\x08"},
		{[]api.Value{sample.Int(math.MinInt64)}, "\x01\x00\x00\x00\x00\x00\x00\x00\x00"},
		{[]api.Value{sample.Int(math.MaxInt64)}, "\x01\xFF\xFF\xFF\xFF\xFF\xFF\xFF\xFF"},
		{[]api.Value{sample.Bool(0)}, "\x02\x00"},
		{[]api.Value{sample.Bool(1)}, "\x02\x01"},
		{[]api.Value{sample.Str("a")}, "\x03a\x00\x01"},
		{[]api.Value{sample.Str("")}, "\x03\x00\x01"},
		{[]api.Value{sample.Str("\x00")}, "\x03\x00\xFF\x00\x01"},
		{[]api.Value{sample.Str("\x00\x01\xFF\x00")}, "\x03\x00\xFF\x01\xFF\x00\xFF\x00\x01"},
		{[]api.Value{sample.Str("\u00E9")}, "\x03\xC3\xA9\x00\x01"},
		{[]api.Value{sample.Bytes("")}, "\x04\x00\x01"},
		{[]api.Value{sample.Bytes("a\x00b\xFF")}, "\x04a\x00\xFFb\xFF\x00\x01"},
		{[]api.Value{sample.Bytes(strings.Repeat("\x00", 60))}, "\x04" + strings.Repeat("\x00\xFF", 60) + "\x00\x01"},
		{[]api.Value{sample.Float(0)}, "\x05\x80\x00\x00\x00\x00\x00\x00\x00"},
		{[]api.Value{sample.Float(sample.MinusNought())}, "\x05\x7F\xFF\xFF\xFF\xFF\xFF\xFF\xFF"},
		{[]api.Value{sample.Float(1)}, "\x05\xBF\xF0\x00\x00\x00\x00\x00\x00"},
		{[]api.Value{sample.Float(-1)}, "\x05\x40\x0F\xFF\xFF\xFF\xFF\xFF\xFF"},
		{[]api.Value{sample.Float(math.Inf(1))}, "\x05\xFF\xF0\x00\x00\x00\x00\x00\x00"},
		{[]api.Value{sample.Float(math.Inf(-1))}, "\x05\x00\x0F\xFF\xFF\xFF\xFF\xFF\xFF"},
		{[]api.Value{sample.Float(sample.SignalNaN())}, "\x05\xFF\xF0\x00\x00\x00\x00\x00\x01"},
		{[]api.Value{sample.Float(sample.LastNaN())}, "\x05\xFF\xFF\xFF\xFF\xFF\xFF\xFF\xFF"},
		{[]api.Value{sample.Float(sample.FirstNaN())}, "\x05\x00\x00\x00\x00\x00\x00\x00\x00"},
		{[]api.Value{sample.Str("b"), sample.Bool(1), sample.Str("")}, "\x03b\x00\x01\x02\x01\x03\x00\x01"},
	} {
		if b, e := code.Put(c.l); string(b) != c.want || e != api.OK {
			t.Errorf("Put(%v) tells % x, %d, not % x", c.l, b, e, c.want)
		}
	}
}

func TestP3_1BytesOfRows(t *testing.T) {
	all := sample.Rising()
	var want []byte
	for _, v := range all {
		want = append(want, written(v)...)
		if b := put(t, []api.Value{v}); !bytes.Equal(b, written(v)) {
			t.Errorf("Put(%v) tells % x, not % x", v, b, written(v))
		}
	}
	if b := put(t, all); !bytes.Equal(b, want) {
		t.Errorf("the bytes of a long row aren't those of its values one behind the other")
	}
}

func TestP3_1NoValues(t *testing.T) {
	for _, v := range sample.NoValues() {
		for _, l := range [][]api.Value{{v}, {v, sample.Int(1)}, {sample.Int(1), v}, {sample.Str("a"), v, sample.Bool(0)}, {v, v}} {
			if b, e := code.Put(l); e != api.ErrCode || len(b) != 0 {
				t.Errorf("Put(%v) tells % x, %d", l, b, e)
			}
		}
	}
}

func TestP3_2GetTellsWhatWasPut(t *testing.T) {
	all := sample.Rising()
	rows := [][]api.Value{nil, {}, all}
	for i, v := range all {
		rows = append(rows, []api.Value{v}, []api.Value{v, v}, all[i:], all[:i])
		for _, w := range all {
			rows = append(rows, []api.Value{v, w})
		}
	}
	for _, l := range rows {
		b := put(t, l)
		if got, e := code.Get(b); e != api.OK || !sample.RowsAlike(got, l) {
			t.Fatalf("Get(% x) tells %v, %d, not %v", b, got, e, l)
		}
		if !code.Whole(b) {
			t.Fatalf("not Whole(% x)", b)
		}
	}
}

func TestP3_2NoBytes(t *testing.T) {
	for _, b := range [][]byte{nil, {}, make([]byte, 0, 9)} {
		if l, e := code.Get(b); e != api.OK || len(l) != 0 || !code.Whole(b) {
			t.Errorf("no bytes are a row of no values: %v, %d", l, e)
		}
	}
}

func TestP3_2WrongBytes(t *testing.T) {
	long := strings.Repeat("x", 60)
	for _, s := range []string{
		"\x00", "\x06", "\xFF", "\x81\x00\x00\x00\x00\x00\x00\x00\x00",
		"\x00\x00\x01", "\x06\x00\x01",
		"\x01", "\x01\x80", "\x01\x80\x00\x00\x00\x00\x00\x00",
		"\x02", "\x02\x02", "\x02\x80", "\x02\xFF",
		"\x03", "\x04", "\x03a", "\x04a", "\x03\x00", "\x03a\x00", "\x03\x00\xFF", "\x04a\x00\xFF",
		"\x03\x00\x00", "\x03\x00\x00\x01", "\x03\x00\x02", "\x03\x00\xFE\x00\x01", "\x04\x00\x7F\x00\x01", "\x04a\x00a\x00\x01",
		"\x03x" + long + "\x00\x01", "\x04x" + long + "\x00\x01", "\x03" + long + "\x00\xFF\x00\x01", "\x03" + long + long + "\x00\x01",
		"\x04" + strings.Repeat("\x00\xFF", 61) + "\x00\x01",
		"\x05", "\x05\x80\x00\x00\x00\x00\x00\x00",
		"\x02\x01\x00", "\x02\x01\x01", "\x02\x01\x02", "\x03\x00\x01\x00", "\x03\x00\x01\x00\x01", "\x03a\x00\x01\xFF",
		"\x01\x80\x00\x00\x00\x00\x00\x00\x00\x00", "\x05\x80\x00\x00\x00\x00\x00\x00\x00\x09",
	} {
		refuse(t, []byte(s))
		refuse(t, append([]byte("\x02\x01"), s...))
	}
}

func TestP3_2LongestStrings(t *testing.T) {
	for _, s := range []string{strings.Repeat("x", 60), strings.Repeat("\x00", 60), strings.Repeat("\xFF", 60)} {
		for _, v := range []api.Value{sample.Str(s), sample.Bytes(s)} {
			if l, e := code.Get(written(v)); e != api.OK || !sample.RowsAlike(l, []api.Value{v}) {
				t.Errorf("a string of 60 bytes: Get tells %v, %d", l, e)
			}
			v.Str += s[:1]
			refuse(t, written(v))
		}
	}
}

func TestP3_2BytesCutOffAndLeftOver(t *testing.T) {
	for _, v := range sample.Rising() {
		b := written(v)
		for n := 1; n < len(b); n++ {
			refuse(t, b[:n])
			refuse(t, append(bytes.Clone(b), b[:n]...))
		}
		for c := range 256 {
			refuse(t, append(bytes.Clone(b), byte(c)))
		}
	}
}

// All short bytes, told by the chapter's words: a Bool and an empty string alone need three bytes or fewer.
func TestP3_2AllShortBytes(t *testing.T) {
	rows := map[string][]api.Value{
		"\x02\x00":     {sample.Bool(0)},
		"\x02\x01":     {sample.Bool(1)},
		"\x03\x00\x01": {sample.Str("")},
		"\x04\x00\x01": {sample.Bytes("")},
	}
	for n := range 1 << 16 {
		ask := [][]byte{{byte(n)}, {byte(n), byte(n >> 8)}}
		for c := range 10 {
			ask = append(ask, []byte{byte(c), byte(n), byte(n >> 8)})
		}
		for _, b := range ask {
			want, ok := rows[string(b)]
			if got, e := code.Get(b); code.Whole(b) != ok || (e == api.OK) != ok || !sample.RowsAlike(got, want) {
				t.Fatalf("Get(% x) tells %v, %d", b, got, e)
			}
		}
	}
}

// Whatever Get finds, Put tells those very bytes of it; whatever it refuses, Whole refuses.
func TestP3_2OneWayToWrite(t *testing.T) {
	chance := rand.New(rand.NewSource(3))
	all := sample.Rising()
	few := []byte{0, 1, 2, 3, 4, 5, 6, 'a', 255}
	found, refused := 0, 0
	for range 200000 {
		var b []byte
		for range chance.Intn(4) {
			b = append(b, written(all[chance.Intn(len(all))])...)
		}
		for range chance.Intn(3) {
			at, c := chance.Intn(len(b)+1), few[chance.Intn(len(few))]
			if chance.Intn(2) == 0 || at == len(b) {
				b = slices.Insert(b, at, c)
			} else {
				b[at] = c
			}
		}
		l, e := code.Get(b)
		if code.Whole(b) != (e == api.OK) {
			t.Fatalf("Get and Whole differ at % x", b)
		}
		if e != api.OK {
			refused++
			if e != api.ErrCode || len(l) != 0 {
				t.Fatalf("Get(% x) tells %v, %d", b, l, e)
			}
			continue
		}
		found++
		if again := put(t, l); !bytes.Equal(again, b) {
			t.Fatalf("Get(% x) tells %v, whose bytes are % x", b, l, again)
		}
	}
	if found < 10000 || refused < 10000 {
		t.Errorf("too few tries on one side: %d found, %d refused", found, refused)
	}
}

// byRows holds Put's bytes against Rows for every pair of rows.
func byRows(t *testing.T, rows [][]api.Value) {
	t.Helper()
	var all [][]byte
	for _, l := range rows {
		all = append(all, put(t, l))
	}
	for i, a := range rows {
		for j, b := range rows {
			if got, want := bytes.Compare(all[i], all[j]), value.Rows(a, b); got != want {
				t.Fatalf("% x and % x stand as %d, the rows %v and %v as %d", all[i], all[j], got, a, b, want)
			}
		}
	}
}

func TestP3_3ValuesRise(t *testing.T) {
	var last []byte
	for i, v := range sample.Rising() {
		b := put(t, []api.Value{v})
		if i > 0 && bytes.Compare(last, b) >= 0 {
			t.Errorf("% x stands not ahead of % x", last, b)
		}
		last = b
	}
}

func TestP3_3OrderOfRows(t *testing.T) {
	all := sample.Rising()
	byRows(t, [][]api.Value{nil, {}})
	var ones, twos, threes [][]api.Value
	for _, v := range all {
		ones = append(ones, []api.Value{v})
	}
	byRows(t, ones)
	// Behind a string that ends, what follows must not be held against a byte of a longer string.
	heads := []api.Value{sample.Str(""), sample.Str("\x00"), sample.Str("a"), sample.Str("a\x00"), sample.Str("a\x01"), sample.Str("a\xFF"), sample.Bytes("a"), sample.Int(-1), sample.Int(0), sample.Bool(1), sample.Float(sample.MinusNought()), sample.Float(0)}
	for _, v := range heads {
		for _, w := range all {
			twos = append(twos, []api.Value{v, w})
		}
		for _, w := range heads {
			for _, x := range heads[:7] {
				threes = append(threes, []api.Value{v, w, x})
			}
		}
	}
	byRows(t, twos)
	byRows(t, threes)
}

func TestP3_3OrderOfNumbers(t *testing.T) {
	chance := rand.New(rand.NewSource(33))
	var rows [][]api.Value
	for range 500 {
		n := chance.Uint64() >> chance.Intn(64)
		rows = append(rows, []api.Value{sample.Int(int64(n))}, []api.Value{sample.Int(-int64(n))}, []api.Value{sample.Float(math.Float64frombits(n))}, []api.Value{sample.Float(math.Float64frombits(^n))})
	}
	byRows(t, rows)
}

func TestArgumentsStayAsTheyAre(t *testing.T) {
	row := slices.Grow(sample.Rising(), 4)
	spare := row[len(row):cap(row)]
	for i := range spare {
		spare[i] = sample.Int(77)
	}
	kept := slices.Clone(row[:cap(row)])
	b := put(t, row)
	if !sample.RowsAlike(row[:cap(row)], kept) {
		t.Errorf("Put changed its row or the room behind it")
	}
	b = append(b, 7, 7, 7)
	keptBytes := bytes.Clone(b)
	code.Get(b[:len(b)-3])
	code.Whole(b[:len(b)-3])
	if !bytes.Equal(b, keptBytes) {
		t.Errorf("Get or Whole changed its bytes or the room behind them")
	}
}

func TestAnswersAreNewMemory(t *testing.T) {
	row := []api.Value{sample.Str("abc"), sample.Int(1), sample.Bytes("\x00d")}
	first := put(t, row)
	second := put(t, row)
	kept := bytes.Clone(second)
	for i := range first[:cap(first)] {
		first[:cap(first)][i] = 9
	}
	if !bytes.Equal(second, kept) {
		t.Errorf("two answers of Put share memory")
	}
	got, _ := code.Get(second)
	again, _ := code.Get(second)
	clear(second)
	if !sample.RowsAlike(got, row) {
		t.Errorf("Get keeps the bytes that it was handed")
	}
	clear(got[:cap(got)])
	if !sample.RowsAlike(again, row) {
		t.Errorf("two answers of Get share memory")
	}
}
