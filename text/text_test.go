package text_test

import (
	"fmt"
	"math"
	"math/rand"
	"slices"
	"strconv"
	"strings"
	"testing"
	"unsafe"

	"rialto/api"
	"rialto/sample"
	"rialto/text"
	"rialto/value"
)

// samples are values of all kinds, and strings that look like texts.
func samples() []api.Value {
	l := sample.Rising()
	for _, s := range []string{
		`"`, `\`, `""`, `\\`, `\"`, `"\`, `\x`, `\x00`, `a\`, `, `, `, , `, `",`, `", "`, `\", "`, `a, b`, `(`, `)`, `()`, `(1, 2)`, `"), ("`,
		` `, `~`, `?`, `0`, `-5`, `true`, `x00`, `f3ff0000000000000`, "\n", "\t\r", "\x1F", "\x7F", "\u20AC", `'`, "`", strings.Repeat(`"`, 60), strings.Repeat(`\`, 60), strings.Repeat("\n", 60),
	} {
		l = append(l, sample.Str(s), sample.Bytes(s))
	}
	for c := range 256 {
		l = append(l, sample.Str(string([]byte{byte(c)})), sample.Bytes(string([]byte{byte(c)})), sample.Str(string([]byte{'a', byte(c), '0', '0'})))
	}
	return append(l, sample.Float(sample.LoadedNaN()), sample.Float(math.Float64frombits(0x0123456789ABCDEF)))
}

// written tells by the chapter's words what Print must tell of a value.
func written(v api.Value) string {
	switch v.Kind {
	case api.Int:
		return fmt.Sprintf("%d", v.Int)
	case api.Bool:
		return fmt.Sprintf("%t", v.Int == 1)
	case api.Bytes:
		return fmt.Sprintf("x%x", v.Str)
	case api.Float:
		return fmt.Sprintf("f%016x", math.Float64bits(v.F))
	}
	s := ""
	for _, c := range []byte(v.Str) {
		switch {
		case c == '"' || c == '\\':
			s += `\` + string(rune(c))
		case c >= 32 && c <= 126:
			s += string(rune(c))
		default:
			s += fmt.Sprintf(`\x%02x`, c)
		}
	}
	return `"` + s + `"`
}

// writtenRow tells what Row must tell.
func writtenRow(l []api.Value) string {
	var texts []string
	for _, v := range l {
		texts = append(texts, written(v))
	}
	return "(" + strings.Join(texts, ", ") + ")"
}

// refuse asks Parse of what is no text of a value, and Read of a row with it.
func refuse(t *testing.T, s string) {
	t.Helper()
	if v, e := text.Parse(s); e != api.ErrText || !sample.Alike(v, api.Value{}) {
		t.Errorf("Parse(%q) tells %#v, %d", s, v, e)
	}
	refuseRow(t, "("+s+", 1)")
	refuseRow(t, "(1, "+s+")")
	if s != "" {
		refuseRow(t, "("+s+")")
	}
}

func refuseRow(t *testing.T, s string) {
	t.Helper()
	if l, e := text.Read(s); e != api.ErrText || len(l) != 0 {
		t.Errorf("Read(%q) tells %#v, %d", s, l, e)
	}
}

func TestP4_1TextOfEachKind(t *testing.T) {
	for _, c := range []struct {
		v    api.Value
		want string
	}{
		{sample.Int(0), "0"},
		{sample.Int(7), "7"},
		{sample.Int(-1), "-1"},
		{sample.Int(120), "120"},
		{sample.Int(math.MinInt64), "-9223372036854775808"},
		{sample.Int(math.MaxInt64), "9223372036854775807"},
		{sample.Bool(0), "false"},
		{sample.Bool(1), "true"},
		{sample.Str(""), `""`},
		{sample.Str("a b~"), `"a b~"`},
		{sample.Str(`say "\x"`), `"say \"\\x\""`},
		{sample.Str("\x00\x1F\x7F\x80\xFF\n\t"), `"\x00\x1f\x7f\x80\xff\x0a\x09"`},
		{sample.Str("\u00E9"), `"\xc3\xa9"`},
		{sample.Str(strings.Repeat("x", 60)), `"` + strings.Repeat("x", 60) + `"`},
		{sample.Str(strings.Repeat("\xAB", 60)), `"` + strings.Repeat(`\xab`, 60) + `"`},
		{sample.Bytes(""), "x"},
		{sample.Bytes("\x00a\"\\\xFF"), "x0061225cff"},
		{sample.Bytes(strings.Repeat("\x9C", 60)), "x" + strings.Repeat("9c", 60)},
		{sample.Float(1), "f3ff0000000000000"},
		{sample.Float(0), "f0000000000000000"},
		{sample.Float(sample.MinusNought()), "f8000000000000000"},
		{sample.Float(-2.5), "fc004000000000000"},
		{sample.Float(math.SmallestNonzeroFloat64), "f0000000000000001"},
		{sample.Float(math.Inf(1)), "f7ff0000000000000"},
		{sample.Float(math.Inf(-1)), "ffff0000000000000"},
		{sample.Float(sample.QuietNaN()), "f7ff8000000000000"},
		{sample.Float(sample.LoadedNaN()), "f7ff8000000000001"},
		{sample.Float(sample.SignalNaN()), "f7ff0000000000001"},
		{sample.Float(sample.FirstNaN()), "fffffffffffffffff"},
		{sample.Float(math.Float64frombits(0x0123456789ABCDEF)), "f0123456789abcdef"},
	} {
		if got := text.Print(c.v); got != c.want {
			t.Errorf("Print(%#v) tells %s, not %s", c.v, got, c.want)
		}
	}
}

func TestP4_1TextOfAll(t *testing.T) {
	for _, v := range samples() {
		if got := text.Print(v); got != written(v) {
			t.Errorf("Print(%#v) tells %s, not %s", v, got, written(v))
		}
	}
}

// Every byte within one string, as the pieces of sixty that a value has room for.
func TestP4_1EveryByte(t *testing.T) {
	var all []byte
	for c := range 256 {
		all = append(all, byte(c))
	}
	for piece := range slices.Chunk(all, 60) {
		for _, v := range []api.Value{sample.Str(string(piece)), sample.Bytes(string(piece))} {
			s := text.Print(v)
			back, e := text.Parse(s)
			if s != written(v) || e != api.OK || !sample.Alike(back, v) {
				t.Errorf("Print(%#v) tells %s, which is read as %#v, %d", v, s, back, e)
			}
		}
	}
}

func TestP4_1NoValues(t *testing.T) {
	for _, v := range sample.NoValues() {
		if got := text.Print(v); got != "?" {
			t.Errorf("Print(%#v) tells %s", v, got)
		}
	}
}

func TestP4_2ParseTellsWhatWasPrinted(t *testing.T) {
	for _, v := range samples() {
		s := written(v)
		if got, e := text.Parse(s); e != api.OK || !sample.Alike(got, v) {
			t.Errorf("Parse(%s) tells %#v, %d, not %#v", s, got, e, v)
		}
	}
}

func TestP4_2WrongNumbers(t *testing.T) {
	for _, s := range []string{
		"00", "01", "007", "-0", "-00", "-01", "+0", "+1", "--1", "-", "+", "-+1", "- 1",
		"9223372036854775808", "-9223372036854775809", "18446744073709551616", "99999999999999999999999", "-99999999999999999999999",
		"1.5", "1.", ".5", "1e3", "0x1", "0b1", "0o7", "1_000", "1a", "a1", " 1", "1 ", "\t1", "1\n", "1\x00", "\u0661", "1,", "1)", "(1)", "()",
		"NaN", "Inf", "-Inf", "nil",
	} {
		refuse(t, s)
	}
}

func TestP4_2WrongWords(t *testing.T) {
	for _, s := range []string{
		"", "?", "??", "? ", " ", "t", "f", "T", "F", "tru", "truex", "true ", " true", "True", "TRUE", "fals", "falsex", "False", "FALSE", "truefalse", "yes", "no",
		"\x00", "\xFF", "a", "(", ")", ",", ", ", "'a'", "`a`", "`", "'", "\\",
	} {
		refuse(t, s)
	}
}

func TestP4_2WrongStrings(t *testing.T) {
	for _, s := range []string{
		`"`, `"a`, `a"`, `"\`, `"\"`, `"a\"`, `"\\\"`, `"""`, `"a"b`, `"a"b"`, `"a""b"`, `"a" `, ` "a"`, `"a"\`, `""a`, `"a",`,
		`"\a"`, `"\n"`, `"\t"`, `"\r"`, `"\b"`, `"\0"`, `"\'"`, `"\ "`, `"\377"`, `"\101"`, `"\u00e9"`, `"\U0001F600"`, `"\X00"`,
		`"\x"`, `"\x0"`, `"\x7"`, `"\x0`, `"\xg0"`, `"\x0g"`, `"\x+1"`, `"\x 1"`, `"\x-1"`,
		`"\x7F"`, `"\xFF"`, `"\xFf"`, `"\xfF"`, `"\x1F"`, `"\x0A"`,
		`"\x20"`, `"\x41"`, `"\x22"`, `"\x5c"`, `"\x7e"`,
		"\"\n\"", "\"\x00\"", "\"\x1F\"", "\"\x7F\"", "\"\x80\"", "\"\xFF\"", "\"\u00E9\"", "\"\uFFFD\"", "\"\r\"", "\"\t\"",
		`"` + strings.Repeat("x", 61) + `"`, `"` + strings.Repeat(`\xff`, 61) + `"`, `"` + strings.Repeat(`\"`, 61) + `"`, `"` + strings.Repeat("x", 5000) + `"`,
	} {
		refuse(t, s)
	}
}

// A byte has one text, as it is or as two digits, never the other one.
func TestP4_2OneTextOfAByte(t *testing.T) {
	for c := range 256 {
		plain := c >= 32 && c <= 126
		asItIs, asDigits := `"`+string([]byte{byte(c)})+`"`, fmt.Sprintf(`"\x%02x"`, c)
		behind := `"\` + string([]byte{byte(c)}) + `"`
		v := sample.Str(string([]byte{byte(c)}))
		for s, want := range map[string]bool{
			asItIs:   plain && c != '"' && c != '\\',
			asDigits: !plain,
			behind:   c == '"' || c == '\\',
		} {
			if !want {
				refuse(t, s)
			} else if got, e := text.Parse(s); e != api.OK || !sample.Alike(got, v) {
				t.Errorf("Parse(%q) tells %#v, %d", s, got, e)
			}
		}
	}
}

func TestP4_2WrongBytes(t *testing.T) {
	for _, s := range []string{
		"x0", "x000", "xa", "xA0", "xAB", "x0G", "x0g", "xg0", "x 0", "x0 ", "x00 ", " x00", "X00", "x-1", "x+1", "x0x", "x00x00", "x0_", "x_0", "x\"\"", "x00,", "x\x00\x00", "0x00",
		"x" + strings.Repeat("00", 61), "x" + strings.Repeat("0", 119), "x" + strings.Repeat("0", 121), "x" + strings.Repeat("ab", 4000),
	} {
		refuse(t, s)
	}
}

func TestP4_2WrongFloats(t *testing.T) {
	for _, s := range []string{
		"f0", "f3ff", "f3ff000000000000", "f3ff00000000000000", "f03ff0000000000000", "f00000000000000000", "f00000000000000001",
		"f3FF0000000000000", "f3ff000000000000A", "F3ff0000000000000", "f3ff000000000000g", "f 3ff000000000000", "f3ff0000000000000 ", " f3ff0000000000000",
		"f+3ff000000000000", "f-3ff000000000000", "f3ff0_000000000000", "f0x3ff0000000000", "f1.5", "f1", "f-0", "fNaN", "fInf", "f\"\"", "x3ff000000000000", "f3ff000000000000\x00",
	} {
		refuse(t, s)
	}
}

func TestP4_3TextOfRows(t *testing.T) {
	for _, c := range []struct {
		l    []api.Value
		want string
	}{
		{nil, "()"},
		{[]api.Value{}, "()"},
		{[]api.Value{sample.Int(5)}, "(5)"},
		{[]api.Value{sample.Str("")}, `("")`},
		{[]api.Value{sample.Bytes("")}, "(x)"},
		{[]api.Value{sample.Str("a, b"), sample.Str(", ")}, `("a, b", ", ")`},
		{[]api.Value{sample.Str(`", "`), sample.Str(`\`), sample.Str(")")}, `("\", \"", "\\", ")")`},
		{[]api.Value{sample.Bool(1), sample.Int(-3), sample.Bytes("\xAB"), sample.Float(1), sample.Bool(0)}, "(true, -3, xab, f3ff0000000000000, false)"},
	} {
		if got := text.Row(c.l); got != c.want {
			t.Errorf("Row(%#v) tells %s, not %s", c.l, got, c.want)
		}
		if got, e := text.Read(c.want); e != api.OK || !sample.RowsAlike(got, c.l) {
			t.Errorf("Read(%s) tells %#v, %d", c.want, got, e)
		}
	}
}

func TestP4_3LongRows(t *testing.T) {
	all := samples()
	rows := [][]api.Value{all}
	for i, v := range all {
		rows = append(rows, []api.Value{v}, []api.Value{v, v}, all[i:min(i+9, len(all))], []api.Value{v, sample.Str(`", "`), v})
	}
	for _, l := range rows {
		s := text.Row(l)
		if s != writtenRow(l) {
			t.Fatalf("Row(%#v) tells %s, not %s", l, s, writtenRow(l))
		}
		if got, e := text.Read(s); e != api.OK || !sample.RowsAlike(got, l) {
			t.Fatalf("Read(%s) tells %#v, %d", s, got, e)
		}
	}
}

// What is no value stands as `?` in its row, which no row is read from.
func TestP4_3RowsWithNoValue(t *testing.T) {
	for _, v := range sample.NoValues() {
		for want, l := range map[string][]api.Value{
			"(?)":          {v},
			"(?, ?)":       {v, v},
			`("a", ?)`:     {sample.Str("a"), v},
			"(?, 1)":       {v, sample.Int(1)},
			"(true, ?, x)": {sample.Bool(1), v, sample.Bytes("")},
		} {
			if got := text.Row(l); got != want {
				t.Errorf("Row(%#v) tells %s", l, got)
			}
			refuseRow(t, want)
		}
	}
}

func TestP4_3WrongRows(t *testing.T) {
	for _, s := range []string{
		"", "(", ")", ")(", "1", `"a"`, "?", "(1", "1)", "1, 2", "(1, 2", "1, 2)", "((1)", "((1))", "(1))", "()()", "(1)(2)", "(1)1", "1(1)", "(()", "())", "(())",
		" (1)", "(1) ", "( 1)", "(1 )", "( )", " ()", "() ", "()\n", "(1)\x00",
		"(1,2)", "(1 ,2)", "(1 , 2)", "(1,  2)", "(1; 2)", "(1 2)", "(1,\t2)", "(1,\n2)", "(1, 2,)", "(1, 2, )", "(, 1)", "(,)", "(, )", "(1, , 2)", "(1, )", "(1,)", "(1,, 2)", "(1 ,)", "(1, 2 3)", "(1/ 2)",
		`("a""b")`, `("a" "b")`, `("a","b")`, `("a"; "b")`, `("a", "b)`, `("a, "b")`, `("a)`, `(")`, `("\")`, `("a\", "b")`, `("a"x, 1)`, `("a" , 1)`, `(1, "a"b)`, `("a", b")`,
		"[1]", "{1}", "<1>", "(1]", "[1)", `"(1)"`,
	} {
		refuseRow(t, s)
	}
}

// Whatever is read has that very text; whatever is printed is read.
func TestP4_3OneWayToWrite(t *testing.T) {
	chance := rand.New(rand.NewSource(4))
	all := samples()
	few := []byte(`"\x0f1-, ()aA?` + "\n")
	found, refused := 0, 0
	for range 200000 {
		var row []api.Value
		for range chance.Intn(4) {
			row = append(row, all[chance.Intn(len(all))])
		}
		b := []byte(writtenRow(row))
		for range chance.Intn(3) {
			at, c := chance.Intn(len(b)+1), few[chance.Intn(len(few))]
			switch {
			case at == len(b) || chance.Intn(3) == 0:
				b = slices.Insert(b, at, c)
			case chance.Intn(2) == 0:
				b = slices.Delete(b, at, at+1)
			default:
				b[at] = c
			}
		}
		l, e := text.Read(string(b))
		if e != api.OK {
			refused++
			if e != api.ErrText || len(l) != 0 {
				t.Fatalf("Read(%q) tells %#v, %d", b, l, e)
			}
			continue
		}
		found++
		if again := writtenRow(l); again != string(b) {
			t.Fatalf("Read(%q) tells %#v, whose text is %s", b, l, again)
		}
	}
	if found < 10000 || refused < 10000 {
		t.Errorf("too few tries on one side: %d found, %d refused", found, refused)
	}
}

// All texts of up to three of these signs: those that are a value's are known, all others are none.
func TestP4_2AllShortTexts(t *testing.T) {
	signs := `"\x0a1-, ()?f+A`
	known := map[string]api.Value{`""`: sample.Str(""), "x": sample.Bytes("")}
	for n := range 1000 {
		known[strconv.Itoa(n)], known[strconv.Itoa(-n)] = sample.Int(int64(n)), sample.Int(int64(-n))
	}
	for c := range 256 {
		v := sample.Str(string([]byte{byte(c)}))
		known[written(v)] = v
		v.Kind = api.Bytes
		known[written(v)] = v
	}
	texts := []string{""}
	for from, length := 0, 0; length < 3; length++ {
		to := len(texts)
		for _, s := range texts[from:to] {
			for _, c := range []byte(signs) {
				texts = append(texts, s+string(rune(c)))
			}
		}
		from = to
	}
	for _, s := range texts {
		want, ok := known[s]
		if got, e := text.Parse(s); (e == api.OK) != ok || !ok && e != api.ErrText || !sample.Alike(got, want) {
			t.Fatalf("Parse(%q) tells %#v, %d", s, got, e)
		}
	}
}

func TestP4_4PrintedIsRead(t *testing.T) {
	for _, v := range samples() {
		got, e := text.Parse(text.Print(v))
		if e != api.OK || !value.Same(got, v) || !sample.Alike(got, v) {
			t.Errorf("%#v is read as %#v, %d", v, got, e)
		}
	}
	chance := rand.New(rand.NewSource(44))
	for range 20000 {
		n := chance.Uint64() >> chance.Intn(64)
		s := make([]byte, chance.Intn(61))
		chance.Read(s)
		row := []api.Value{
			sample.Int(int64(n)), sample.Int(-int64(n)), sample.Float(math.Float64frombits(n)), sample.Float(math.Float64frombits(^n)),
			sample.Float(math.Float64frombits(0x7FF<<52 | n)), sample.Str(string(s)), sample.Bytes(string(s)), sample.Bool(int64(n & 1)),
		}
		for _, v := range row {
			if got, e := text.Parse(text.Print(v)); e != api.OK || !sample.Alike(got, v) {
				t.Fatalf("%#v is read as %#v, %d", v, got, e)
			}
		}
		if got, e := text.Read(text.Row(row)); e != api.OK || value.Rows(got, row) != 0 || !sample.RowsAlike(got, row) {
			t.Fatalf("%#v is read as %#v, %d", row, got, e)
		}
	}
}

func TestArgumentsStayAsTheyAre(t *testing.T) {
	row := slices.Grow(samples(), 4)
	spare := row[len(row):cap(row)]
	for i := range spare {
		spare[i] = sample.Int(77)
	}
	kept := slices.Clone(row[:cap(row)])
	text.Row(row)
	if !sample.RowsAlike(row[:cap(row)], kept) {
		t.Errorf("Row changed its row or the room behind it")
	}
}

func TestAnswersAreNewMemory(t *testing.T) {
	s := `("abc", 1, x0102)`
	first, _ := text.Read(s)
	second, _ := text.Read(s)
	clear(first[:cap(first)])
	if !sample.RowsAlike(second, []api.Value{sample.Str("abc"), sample.Int(1), sample.Bytes("\x01\x02")}) {
		t.Errorf("two answers of Read share memory")
	}
}

// A piece of a long text would keep all of it.
func TestStringsAreNewMemory(t *testing.T) {
	s := strings.Clone(`"abc"`)
	v, _ := text.Parse(s)
	if unsafe.StringData(v.Str) == unsafe.StringData(s[1:]) {
		t.Errorf("Parse tells a piece of the text it was handed")
	}
}
