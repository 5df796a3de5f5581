package tests

import (
	"math"
	"slices"
	"strings"
	"testing"

	"loop.example/g00849/impl"
)

// wideOf follows the definition byte by byte.
func wideOf(c impl.Code, unit int64, body string) impl.Wide {
	size := int64(len(body))
	stripes := int64(0)
	for stripes*c.K*unit < size {
		stripes++
	}
	columns := make([][]byte, c.K)
	for i := range columns {
		columns[i] = make([]byte, stripes*unit)
	}
	for p := range size {
		stripe := p / (c.K * unit)
		columns[p%(c.K*unit)/unit][stripe*unit+p%unit] = body[p]
	}
	var data []string
	for _, column := range columns {
		data = append(data, string(column))
	}
	return impl.Wide{Code: c, Unit: unit, Size: size, Columns: piecesOf(generator(c.K, c.M), data)}
}

// bodyOf reads the body byte by byte out of columns.
func bodyOf(w impl.Wide, columns []string) string {
	body := make([]byte, w.Size)
	for p := range w.Size {
		stripe := p / (w.Code.K * w.Unit)
		body[p] = columns[p%(w.Code.K*w.Unit)/w.Unit][stripe*w.Unit+p%w.Unit]
	}
	return string(body)
}

// example is the object of the document's examples.
func example() impl.Wide {
	return wideOf(impl.Code{K: 2, M: 1}, 2, "abcdefghi")
}

// someWides returns objects of every code and of some numbers of full stripes,
// or of one byte less or more; some bodies end with zero bytes. Many stripes
// stand for the largest body.
func someWides(seed uint64, units, stripes []int64) []impl.Wide {
	var list []impl.Wide
	for _, c := range allCodes() {
		for _, unit := range units {
			for _, n := range stripes {
				full := min(255, n*c.K*unit)
				for size := max(0, full-1); size <= full+1; size++ {
					list = append(list, wideOf(c, unit, bodies(seed+uint64(size), int(size))[size%3]))
				}
			}
		}
	}
	return list
}

// strange returns w with columns of any bytes: valid, but not whole.
func strange(seed uint64, w impl.Wide) impl.Wide {
	r := source(seed)
	w.Columns = slices.Clone(w.Columns)
	for i, column := range w.Columns {
		w.Columns[i] = someBytes(r, len(column))
	}
	return w
}

// changed returns w with another byte in one column.
func changed(w impl.Wide, pos, at int) impl.Wide {
	w.Columns = slices.Clone(w.Columns)
	column := []byte(w.Columns[pos])
	column[at] ^= 0x41
	w.Columns[pos] = string(column)
	return w
}

// with returns text, overwritten at offset at.
func with(text string, at int64, bytes string) string {
	return text[:at] + bytes + text[at+int64(len(bytes)):]
}

func wantWide(t *testing.T, name string, got impl.Wide, code int64, want impl.Wide, wantCode int64) {
	t.Helper()
	same := got.Code == want.Code && got.Unit == want.Unit && got.Size == want.Size && slices.Equal(got.Columns, want.Columns)
	if !same || code != wantCode {
		t.Fatalf("%s: %v, code %d; want %v, code %d", name, got, code, want, wantCode)
	}
}

func wantDeltas(t *testing.T, name string, got []impl.Delta, code int64, want []impl.Delta, wantCode int64) {
	t.Helper()
	if !slices.Equal(got, want) || code != wantCode {
		t.Fatalf("%s: %v, code %d; want %v, code %d", name, got, code, want, wantCode)
	}
}

func farNumbers() []int64 {
	return []int64{1 << 32, 1<<32 + 1, 1 << 62, math.MaxInt64 - 1, math.MaxInt64, -1 << 32, math.MinInt64, math.MinInt64 + 1}
}

// wrongWides are not valid, each for a reason of its own.
func wrongWides() []impl.Wide {
	list := []impl.Wide{{}}
	add := func(turn func(w *impl.Wide)) {
		w := example()
		turn(&w)
		list = append(list, w)
	}
	for _, c := range append(wrongCodes(), impl.Code{K: 1, M: 2}, impl.Code{K: 3, M: 0}, impl.Code{K: 2, M: 0}, impl.Code{K: 2, M: 2}) {
		add(func(w *impl.Wide) { w.Code = c })
	}
	for _, n := range append(farNumbers(), -1, -2, 0, 1, 4, 7, 9, 16) {
		add(func(w *impl.Wide) { w.Unit = n })
	}
	for _, n := range append(farNumbers(), -1, -9, 0, 1, 4, 8, 13, 256, 257) {
		add(func(w *impl.Wide) { w.Size = n })
	}
	for _, columns := range [][]string{nil, {}, {"abefi\x00", "cdgh\x00\x00"}, {"", "", ""}, {"abefi\x00", "cdgh\x00\x00", "abcdef", "abcdef"}} {
		add(func(w *impl.Wide) { w.Columns = columns })
	}
	for i := range 3 {
		for _, column := range []string{"", "abcde", "abcdefg", strings.Repeat("a", 300)} {
			add(func(w *impl.Wide) { w.Columns[i] = column })
		}
	}
	c, none, long := impl.Code{K: 2, M: 1}, []string{"", "", ""}, strings.Repeat("a", 130)
	return append(list,
		impl.Wide{Code: c, Unit: 2}, impl.Wide{Code: c, Unit: 2, Columns: []string{"", "", "a"}},
		impl.Wide{Code: c, Unit: 2, Size: -1, Columns: none}, impl.Wide{Code: c, Unit: 2, Size: -3, Columns: none},
		impl.Wide{Code: c, Unit: 2, Size: 257, Columns: []string{long, long, long}}, impl.Wide{Code: c, Unit: 2, Size: 260, Columns: []string{long, long, long}})
}

func TestLimitsOfStripes(t *testing.T) {
	if impl.MaxWide != 256 || impl.MaxUnit != 8 {
		t.Errorf("MaxWide = %d, MaxUnit = %d", impl.MaxWide, impl.MaxUnit)
	}
}

func TestWideOk(t *testing.T) {
	for _, w := range someWides(40, []int64{1, 2, 7, 8}, []int64{0, 1, 2, 100}) {
		if !impl.WideOk(w) || !impl.WideOk(strange(41, w)) {
			t.Errorf("%v is not valid", w)
		}
	}
	for size := int64(9); size <= 12; size++ {
		w := example()
		if w.Size = size; !impl.WideOk(w) {
			t.Errorf("%v is not valid", w)
		}
	}
	if !impl.WideOk(impl.Wide{Code: impl.Code{K: 1}, Unit: 8, Columns: []string{""}}) {
		t.Error("an empty object is not valid")
	}
}

// What is not valid is refused by every function, also where other arguments
// are wrong.
func TestWrongWidesAreRefused(t *testing.T) {
	for _, w := range wrongWides() {
		if impl.WideOk(w) || impl.WideWhole(w) {
			t.Fatalf("%v is valid", w)
		}
		text, code := impl.WideBody(w)
		wantText(t, "WideBody", text, code, "", impl.ErrForm)
		for _, at := range []int64{0, -1, 300} {
			pos, offset, code := impl.CellOf(w, at)
			wantSame(t, "CellOf", []int64{pos, offset, code}, []int64{0, 0, impl.ErrForm})
			text, code = impl.ReadWide(w, at, at)
			wantText(t, "ReadWide", text, code, "", impl.ErrForm)
			text, code = impl.ReadLost(w, []int64{at, at}, at, at)
			wantText(t, "ReadLost", text, code, "", impl.ErrForm)
			text, code = impl.ReadLost(w, []int64{0, 1, 2}, 0, 0)
			wantText(t, "ReadLost", text, code, "", impl.ErrForm)
			list, code := impl.DeltasOf(w, at, "a")
			wantDeltas(t, "DeltasOf", list, code, nil, impl.ErrForm)
			next, code := impl.TakeDelta(w, impl.Delta{Pos: at, At: at})
			wantWide(t, "TakeDelta", next, code, impl.Wide{}, impl.ErrForm)
			next, code = impl.WriteWide(w, at, "")
			wantWide(t, "WriteWide", next, code, impl.Wide{}, impl.ErrForm)
		}
	}
}

func TestWideOfExample(t *testing.T) {
	w, code := impl.WideOf(impl.Code{K: 2, M: 1}, 2, "abcdefghi")
	parity, _ := impl.MatPieces(matrix(1, 2, 1, 245), []string{"abefi\x00", "cdgh\x00\x00"})
	want := impl.Wide{Code: impl.Code{K: 2, M: 1}, Unit: 2, Size: 9, Columns: []string{"abefi\x00", "cdgh\x00\x00", parity[0]}}
	wantWide(t, "WideOf", w, code, want, impl.OK)
	w, code = impl.WideOf(impl.Code{K: 3, M: 1}, 4, "")
	want = impl.Wide{Code: impl.Code{K: 3, M: 1}, Unit: 4, Columns: []string{"", "", "", ""}}
	wantWide(t, "WideOf nothing", w, code, want, impl.OK)
	w, code = impl.WideOf(impl.Code{K: 1, M: 1}, 8, "a\x00")
	want = impl.Wide{Code: impl.Code{K: 1, M: 1}, Unit: 8, Size: 2, Columns: []string{"a\x00\x00\x00\x00\x00\x00\x00", "a\x00\x00\x00\x00\x00\x00\x00"}}
	wantWide(t, "WideOf a body that ends with zero", w, code, want, impl.OK)
}

func TestWideOfIsAsDefined(t *testing.T) {
	for _, c := range allCodes() {
		for unit := int64(1); unit <= 8; unit++ {
			for size := 0; size <= 256; size += 1 + size/48 {
				body := bodies(uint64(42), size)[size%4]
				w, code := impl.WideOf(c, unit, body)
				wantWide(t, "WideOf", w, code, wideOf(c, unit, body), impl.OK)
				text, code := impl.WideBody(w)
				wantText(t, "WideBody", text, code, body, impl.OK)
			}
			w, code := impl.WideOf(c, unit, strings.Repeat("z", 256))
			wantWide(t, "WideOf", w, code, wideOf(c, unit, strings.Repeat("z", 256)), impl.OK)
		}
	}
}

func TestWideOfRefuses(t *testing.T) {
	long := strings.Repeat("\x00", 257)
	for _, c := range wrongCodes() {
		for _, unit := range []int64{1, 0, 9} {
			for _, body := range []string{"", long} {
				w, code := impl.WideOf(c, unit, body)
				wantWide(t, "WideOf", w, code, impl.Wide{}, impl.ErrForm)
			}
		}
	}
	for _, c := range allCodes() {
		for _, unit := range append(farNumbers(), 0, -1, -8, 9, 16) {
			for _, body := range []string{"", "abc", long} {
				w, code := impl.WideOf(c, unit, body)
				wantWide(t, "WideOf", w, code, impl.Wide{}, impl.ErrRange)
			}
		}
		for unit := int64(1); unit <= 8; unit++ {
			for _, body := range []string{long, strings.Repeat("a", 512)} {
				w, code := impl.WideOf(c, unit, body)
				wantWide(t, "WideOf", w, code, impl.Wide{}, impl.ErrMany)
			}
		}
	}
}

// With the columns of the body, and with one byte of them changed.
func TestWideWhole(t *testing.T) {
	for _, w := range someWides(43, []int64{1, 3, 8}, []int64{0, 1, 2}) {
		if !impl.WideWhole(w) {
			t.Fatalf("%v is not whole", w)
		}
		for pos := range w.Columns {
			for at := range len(w.Columns[pos]) {
				other := changed(w, pos, at)
				want := slices.Equal(other.Columns, wideOf(w.Code, w.Unit, bodyOf(w, other.Columns)).Columns)
				if got := impl.WideWhole(other); got != want || want && w.Code.M > 0 {
					t.Fatalf("WideWhole(%v) = %v", other, got)
				}
			}
		}
	}
}

func TestWideWholeLooksAtThePadding(t *testing.T) {
	w := wideOf(impl.Code{K: 2, M: 1}, 2, "abcdefghi\x00\x00")
	for size := int64(9); size <= 12; size++ {
		if w.Size = size; !impl.WideWhole(w) {
			t.Errorf("%v is not whole", w)
		}
	}
	w = wideOf(impl.Code{K: 2, M: 1}, 2, "abcdefghij")
	if w.Size = 9; impl.WideWhole(w) || !impl.WideOk(w) {
		t.Errorf("%v is whole, or not valid", w)
	}
	w = wideOf(impl.Code{K: 2}, 2, "abcdefghi")
	if other := changed(w, 1, 1); !impl.WideWhole(other) {
		t.Errorf("%v has no parity and is not whole", other)
	}
	if other := changed(w, 1, 5); impl.WideWhole(other) {
		t.Errorf("%v has a byte behind the body and is whole", other)
	}
}

func TestCellOf(t *testing.T) {
	pos, at, code := impl.CellOf(example(), 4)
	wantSame(t, "CellOf", []int64{pos, at, code}, []int64{0, 2, impl.OK})
	for _, w := range someWides(44, []int64{1, 2, 5, 8}, []int64{0, 1, 2, 3}) {
		for p := range w.Size {
			pos, at, code := impl.CellOf(w, p)
			stripe := p / (w.Code.K * w.Unit)
			want := []int64{p % (w.Code.K * w.Unit) / w.Unit, stripe*w.Unit + p%w.Unit, impl.OK}
			wantSame(t, "CellOf", []int64{pos, at, code}, want)
		}
		for _, p := range append(farNumbers(), -1, -2, w.Size, w.Size+1, 256) {
			pos, at, code := impl.CellOf(w, p)
			wantSame(t, "CellOf", []int64{pos, at, code}, []int64{0, 0, impl.ErrRange})
		}
	}
}

// wantRange checks a range that is read of a body, also without some columns.
func wantRange(t *testing.T, w impl.Wide, lost []int64, at, n int64, body string) {
	t.Helper()
	want := body[at : at+min(n, int64(len(body))-at)]
	text, code := impl.ReadLost(w, lost, at, n)
	wantText(t, "ReadLost", text, code, want, impl.OK)
	if len(lost) == 0 {
		text, code = impl.ReadWide(w, at, n)
		wantText(t, "ReadWide", text, code, want, impl.OK)
	}
}

func TestReadExamples(t *testing.T) {
	w := example()
	for _, lost := range [][]int64{nil, {}, {0}, {1}, {2}} {
		text, code := impl.ReadLost(w, lost, 1, 5)
		wantText(t, "ReadLost", text, code, "bcdef", impl.OK)
	}
	text, code := impl.ReadWide(w, 1, 5)
	wantText(t, "ReadWide", text, code, "bcdef", impl.OK)
}

// P9: a range that is read is that range of the body.
func TestRangesAreOfTheBody(t *testing.T) {
	for _, w := range someWides(45, []int64{1, 3, 8}, []int64{0, 1, 2}) {
		body := bodyOf(w, w.Columns)
		for at := range w.Size + 1 {
			for n := range w.Size - at + 2 {
				text, code := impl.ReadWide(w, at, n)
				wantText(t, "ReadWide", text, code, body[at:min(at+n, w.Size)], impl.OK)
			}
			for _, n := range []int64{0, 1, 257, 1 << 32, math.MaxInt64 - 1, math.MaxInt64} {
				wantRange(t, w, nil, at, n, body)
			}
		}
	}
}

// spoilt returns w with other bytes in the columns that reading without the
// lost ones must not look at.
func spoilt(w impl.Wide, lost []int64) impl.Wide {
	left := w.Code.K
	for i, column := range w.Columns {
		if !slices.Contains(lost, int64(i)) && left > 0 {
			left--
			continue
		}
		for at := range len(column) {
			w = changed(w, i, at)
		}
	}
	return w
}

// P9: any M columns may be lost, or fewer; what is in them does not matter.
func TestAnyColumnsMayBeLost(t *testing.T) {
	for _, w := range someWides(46, []int64{1, 4, 8}, []int64{0, 1, 2, 100}) {
		body := bodyOf(w, w.Columns)
		for m := range w.Code.M + 1 {
			for _, lost := range choices(w.Code.K+w.Code.M, m) {
				other := spoilt(w, lost)
				wantRange(t, w, lost, 0, w.Size, body)
				wantRange(t, other, lost, 0, w.Size, body)
				wantRange(t, other, lost, w.Size/3, w.Size/2, body)
				wantRange(t, other, lost, w.Size, math.MaxInt64, body)
			}
		}
	}
}

// Every range of an object that is not whole is read out of what its first
// remaining columns determine; ReadWide reads the data columns.
func TestReadingWhatIsNotWhole(t *testing.T) {
	c := impl.Code{K: 3, M: 2}
	r := source(47)
	for size := int64(13); size <= 24; size++ {
		w := wideOf(c, 4, strings.Repeat("a", int(size)))
		data := []string{someBytes(r, 8), someBytes(r, 8), someBytes(r, 8)}
		w.Columns = piecesOf(generator(3, 2), data)
		body := bodyOf(w, data)
		for _, lost := range slices.Concat(choices(5, 0), choices(5, 1), choices(5, 2)) {
			other := spoilt(w, lost)
			for at := range size + 1 {
				wantRange(t, other, lost, at, 7, body)
			}
		}
		other := strange(48, w)
		text, code := impl.ReadWide(other, 0, size)
		wantText(t, "ReadWide", text, code, bodyOf(w, other.Columns), impl.OK)
		text, code = impl.WideBody(other)
		wantText(t, "WideBody", text, code, bodyOf(w, other.Columns), impl.OK)
	}
}

func TestReadRefuses(t *testing.T) {
	for _, w := range someWides(49, []int64{2}, []int64{0, 1, 2}) {
		for _, at := range append(farNumbers(), -1, -2, w.Size+1, w.Size+2) {
			for _, n := range []int64{0, 1, -1, math.MaxInt64, math.MinInt64} {
				text, code := impl.ReadWide(w, at, n)
				wantText(t, "ReadWide", text, code, "", impl.ErrRange)
				text, code = impl.ReadLost(w, nil, at, n)
				wantText(t, "ReadLost", text, code, "", impl.ErrRange)
			}
		}
		for _, n := range []int64{-1, -2, -1 << 32, math.MinInt64} {
			for at := range w.Size + 1 {
				text, code := impl.ReadWide(w, at, n)
				wantText(t, "ReadWide", text, code, "", impl.ErrRange)
				text, code = impl.ReadLost(w, nil, at, n)
				wantText(t, "ReadLost", text, code, "", impl.ErrRange)
			}
		}
	}
}

func TestReadLostRefusesLists(t *testing.T) {
	w := wideOf(helloCode, 2, hello)
	lists := [][]int64{{0, 0}, {1, 0}, {4, 4}, {0, 2, 1}, {0, 1, 2, 2}, {0, 1, 2, 3, 4, 4}, {0, 1, 2, 3, 4, 5}, {4, 3, 2, 1, 0}}
	for _, n := range append(farNumbers(), -1, 5, 6) {
		lists = append(lists, []int64{n}, []int64{0, n}, []int64{n, 0}, []int64{n, n}, []int64{0, 1, 2, n})
	}
	for _, lost := range lists {
		text, code := impl.ReadLost(w, lost, 0, 5)
		wantText(t, "ReadLost", text, code, "", impl.ErrRange)
	}
}

func TestTooFewColumns(t *testing.T) {
	for _, w := range someWides(50, []int64{3}, []int64{0, 1}) {
		for n := w.Code.M + 1; n <= w.Code.K+w.Code.M; n++ {
			for _, lost := range choices(w.Code.K+w.Code.M, n) {
				text, code := impl.ReadLost(w, lost, 0, w.Size)
				wantText(t, "ReadLost", text, code, "", impl.ErrFew)
				text, code = impl.ReadLost(w, lost, w.Size, 0)
				wantText(t, "ReadLost", text, code, "", impl.ErrFew)
				text, code = impl.ReadLost(w, lost, w.Size+1, 0)
				wantText(t, "ReadLost", text, code, "", impl.ErrRange)
				text, code = impl.ReadLost(w, lost, 0, -1)
				wantText(t, "ReadLost", text, code, "", impl.ErrRange)
			}
		}
	}
}

// deltasOf follows the definition byte by byte.
func deltasOf(w impl.Wide, at int64, bytes string) []impl.Delta {
	var list []impl.Delta
	wide, old := w.Code.K*w.Unit, bodyOf(w, w.Columns)
	for first := int64(0); first < w.Size; first += wide {
		whole := make([][]byte, w.Code.K)
		parts := make([]impl.Delta, w.Code.K)
		for i := range whole {
			whole[i] = make([]byte, w.Unit)
		}
		for p := max(first, at); p < min(first+wide, at+int64(len(bytes))); p++ {
			pos, offset := (p-first)/w.Unit, (p-first)%w.Unit
			difference := bytes[p-at] ^ old[p]
			if whole[pos][offset] = difference; parts[pos].Bytes == "" {
				parts[pos] = impl.Delta{Pos: pos, At: first/w.Code.K + offset}
			}
			parts[pos].Bytes += string([]byte{difference})
		}
		parts = slices.DeleteFunc(parts, func(d impl.Delta) bool { return d.Bytes == "" })
		if len(parts) == 0 {
			continue
		}
		list = append(list, parts...)
		var data []string
		for _, cells := range whole {
			data = append(data, string(cells))
		}
		for i, parity := range piecesOf(generator(w.Code.K, w.Code.M), data)[w.Code.K:] {
			list = append(list, impl.Delta{Pos: w.Code.K + int64(i), At: first / w.Code.K, Bytes: parity})
		}
	}
	return list
}

// plus adds the deltas byte by byte.
func plus(w impl.Wide, list ...impl.Delta) impl.Wide {
	w.Columns = slices.Clone(w.Columns)
	for _, d := range list {
		column := []byte(w.Columns[d.Pos])
		for i := range len(d.Bytes) {
			column[d.At+int64(i)] ^= d.Bytes[i]
		}
		w.Columns[d.Pos] = string(column)
	}
	return w
}

func TestDeltasExample(t *testing.T) {
	w := example()
	list, code := impl.DeltasOf(w, 1, "BCDEF")
	parity := func(first, second string) string {
		pieces, _ := impl.MatPieces(matrix(1, 2, 1, 245), []string{first, second})
		return pieces[0]
	}
	wantDeltas(t, "DeltasOf", list, code, []impl.Delta{
		{Pos: 0, At: 1, Bytes: " "}, {Pos: 1, At: 0, Bytes: "  "}, {Pos: 2, At: 0, Bytes: parity("\x00 ", "  ")},
		{Pos: 0, At: 2, Bytes: "  "}, {Pos: 2, At: 2, Bytes: parity("  ", "\x00\x00")},
	}, impl.OK)
	for _, d := range list {
		if w, code = impl.TakeDelta(w, d); code != impl.OK {
			t.Fatalf("TakeDelta of %v: code %d", d, code)
		}
	}
	wantWide(t, "after all deltas", w, impl.OK, wideOf(impl.Code{K: 2, M: 1}, 2, "aBCDEFghi"), impl.OK)
}

// A write within one cell, within a stripe, and of nothing.
func TestSmallDeltas(t *testing.T) {
	w := wideOf(impl.Code{K: 2, M: 2}, 4, strings.Repeat("a", 20))
	list, code := impl.DeltasOf(w, 13, "bb")
	parity, _ := impl.MatPieces(matrix(2, 2, 1, 245, 1, 143), []string{"\x00\x00\x00\x00", "\x00\x03\x03\x00"})
	wantDeltas(t, "DeltasOf", list, code, []impl.Delta{
		{Pos: 1, At: 5, Bytes: "\x03\x03"}, {Pos: 2, At: 4, Bytes: parity[0]}, {Pos: 3, At: 4, Bytes: parity[1]},
	}, impl.OK)
	list, code = impl.DeltasOf(w, 19, "a")
	wantDeltas(t, "DeltasOf nothing new", list, code, []impl.Delta{
		{Pos: 0, At: 11, Bytes: "\x00"}, {Pos: 2, At: 8, Bytes: "\x00\x00\x00\x00"}, {Pos: 3, At: 8, Bytes: "\x00\x00\x00\x00"},
	}, impl.OK)
	for at := range int64(21) {
		list, code := impl.DeltasOf(w, at, "")
		wantDeltas(t, "DeltasOf no bytes", list, code, nil, impl.OK)
	}
}

// someWrites returns offsets and lengths of writes into a body of a size.
func someWrites(seed uint64, size int64) [][2]int64 {
	list := [][2]int64{{0, 0}, {size, 0}, {0, size}, {size / 2, 0}}
	r := source(seed)
	for range 12 {
		at := r.Int64N(size + 1)
		list = append(list, [2]int64{at, r.Int64N(size - at + 1)}, [2]int64{at, min(1, size-at)}, [2]int64{at, size - at})
	}
	return list
}

func TestDeltasAreAsDefined(t *testing.T) {
	r := source(51)
	for i, w := range someWides(52, []int64{1, 2, 5, 8}, []int64{0, 1, 2, 3}) {
		if i%2 == 1 {
			w = strange(53, w)
		}
		for _, v := range someWrites(uint64(i), w.Size) {
			bytes := someBytes(r, int(v[1]))
			want := deltasOf(w, v[0], bytes)
			list, code := impl.DeltasOf(w, v[0], bytes)
			wantDeltas(t, "DeltasOf", list, code, want, impl.OK)
			next, code := impl.WriteWide(w, v[0], bytes)
			wantWide(t, "WriteWide", next, code, plus(w, want...), impl.OK)
			for _, d := range list {
				after, code := impl.TakeDelta(w, d)
				wantWide(t, "TakeDelta", after, code, plus(w, d), impl.OK)
				w = after
			}
			wantWide(t, "WriteWide is TakeDelta of all", w, impl.OK, next, impl.OK)
		}
	}
}

// P9: a write by differences yields what rewriting the whole body yields.
func TestWriteIsRewriting(t *testing.T) {
	r := source(54)
	for i, w := range someWides(55, []int64{1, 3, 8}, []int64{0, 1, 2, 100}) {
		for _, v := range someWrites(uint64(i), w.Size) {
			bytes := someBytes(r, int(v[1]))
			body := with(bodyOf(w, w.Columns), v[0], bytes)
			next, code := impl.WriteWide(w, v[0], bytes)
			wantWide(t, "WriteWide", next, code, wideOf(w.Code, w.Unit, body), impl.OK)
			text, code := impl.WideBody(next)
			wantText(t, "WideBody", text, code, body, impl.OK)
			w = next
		}
	}
}

// P9 for every write of one byte and of two, and so within every cell and over
// every end of one, with the columns of each choice lost afterwards.
func TestWritesWithinCells(t *testing.T) {
	for _, c := range allCodes() {
		old := bodies(56, 2*int(c.K)*3-1)[0]
		w := wideOf(c, 3, old)
		for at := range w.Size {
			for _, bytes := range []string{"\x00", "Q", "\x00\x00", "QR", "\x00R"} {
				if at+int64(len(bytes)) > w.Size {
					continue
				}
				body := with(old, at, bytes)
				next, code := impl.WriteWide(w, at, bytes)
				wantWide(t, "WriteWide", next, code, wideOf(c, 3, body), impl.OK)
				for _, lost := range choices(c.K+c.M, c.M) {
					wantRange(t, next, lost, 0, w.Size, body)
				}
			}
		}
	}
}

func wantNoWrite(t *testing.T, w impl.Wide, at int64, bytes string) {
	t.Helper()
	deltas, code := impl.DeltasOf(w, at, bytes)
	wantDeltas(t, "DeltasOf", deltas, code, nil, impl.ErrRange)
	next, code := impl.WriteWide(w, at, bytes)
	wantWide(t, "WriteWide", next, code, impl.Wide{}, impl.ErrRange)
}

func TestWriteRefuses(t *testing.T) {
	for _, w := range someWides(57, []int64{1, 4}, []int64{0, 1, 2, 100}) {
		for at := range w.Size + 1 {
			wantNoWrite(t, w, at, strings.Repeat("a", int(w.Size-at)+1))
		}
		wantNoWrite(t, w, 0, strings.Repeat("a", 300))
		for _, at := range append(farNumbers(), -1, -w.Size-1, -257, w.Size+1, w.Size+2, 300) {
			for _, bytes := range []string{"", "a", strings.Repeat("a", int(w.Size)), strings.Repeat("a", 300)} {
				wantNoWrite(t, w, at, bytes)
			}
		}
	}
}

// The body ends within the last stripe; a delta may go on to its end.
func TestTakeDeltaUpToTheEnds(t *testing.T) {
	for _, w := range []impl.Wide{example(), strange(58, example())} {
		for pos := range int64(3) {
			for at := range int64(7) {
				for n := range 7 - at {
					d := impl.Delta{Pos: pos, At: at, Bytes: "\x01\x80\xffxyz"[:n]}
					next, code := impl.TakeDelta(w, d)
					wantWide(t, "TakeDelta", next, code, plus(w, d), impl.OK)
				}
			}
		}
	}
	w := wideOf(impl.Code{K: 2, M: 1}, 2, "")
	next, code := impl.TakeDelta(w, impl.Delta{Pos: 2})
	wantWide(t, "TakeDelta of nothing", next, code, w, impl.OK)
}

func TestTakeDeltaRefuses(t *testing.T) {
	w := example()
	var list []impl.Delta
	for _, n := range append(farNumbers(), -1) {
		list = append(list, impl.Delta{Pos: n}, impl.Delta{Pos: n, Bytes: "a"}, impl.Delta{At: n}, impl.Delta{At: n, Bytes: "a"}, impl.Delta{Pos: n, At: n, Bytes: "ab"})
	}
	for pos := range int64(4) {
		for at := range int64(9) {
			d := impl.Delta{Pos: pos, At: at, Bytes: "abcdefgh"[:max(0, 7-at)]}
			list = append(list, d)
		}
		list = append(list, impl.Delta{Pos: pos, At: -1, Bytes: "ab"}, impl.Delta{Pos: pos, Bytes: strings.Repeat("a", 300)})
	}
	for _, d := range append(list, impl.Delta{Pos: 3}, impl.Delta{Pos: 3, Bytes: "a"}) {
		next, code := impl.TakeDelta(w, d)
		wantWide(t, "TakeDelta", next, code, impl.Wide{}, impl.ErrRange)
	}
}
