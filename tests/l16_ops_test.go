package tests

import (
	"encoding/binary"
	"fmt"
	"math/rand/v2"
	"slices"
	"strings"
	"testing"

	"loop.example/g00849/impl"
)

// simplest is the code for which functions without a code take operations.
var simplest = impl.Code{K: 1}

func op(kind, at int64, bytes string) impl.Op {
	return impl.Op{Kind: kind, At: at, Bytes: bytes}
}

// isOp follows the table of the document, row by row.
func isOp(c impl.Code, o impl.Op) bool {
	short := len(o.Bytes) <= 64
	inside := o.At >= 0 && o.At <= 64
	rows := map[int64]bool{
		impl.OpRead:   o == op(impl.OpRead, 0, ""),
		impl.OpDelete: o == op(impl.OpDelete, 0, ""),
		impl.OpFull:   o.At == 0 && short,
		impl.OpWrite:  c.K == 1 && inside && short,
		impl.OpAppend: c.K == 1 && o.At == 0 && short,
		impl.OpCut:    c.K == 1 && inside && o.Bytes == "",
	}
	return slices.Contains(allCodes(), c) && rows[o.Kind]
}

// done returns what an operation makes of an object, byte by byte.
func done(body string, there bool, o impl.Op) (string, bool) {
	if !isOp(simplest, o) || len(body) > 64 {
		return "", false
	}
	if !there {
		body = ""
	}
	start := len(body)
	switch o.Kind {
	case impl.OpRead:
		return body, there
	case impl.OpFull:
		return o.Bytes, true
	case impl.OpCut:
		if int(o.At) < len(body) {
			return body[:o.At], there
		}
		return body, there
	case impl.OpDelete:
		return "", false
	case impl.OpWrite:
		start = int(o.At)
	}
	var bytes []byte
	for i := range 64 {
		switch {
		case i >= start && i < start+len(o.Bytes):
			bytes = append(bytes, o.Bytes[i-start])
		case i < len(body):
			bytes = append(bytes, body[i])
		case i < start:
			bytes = append(bytes, 0)
		}
	}
	return string(bytes), true
}

// allDone returns what a list of operations makes of an object.
func allDone(body string, there bool, list []impl.Op) (string, bool) {
	isWrong := func(o impl.Op) bool { return !isOp(simplest, o) }
	if len(list) > 24 || len(body) > 64 || slices.ContainsFunc(list, isWrong) {
		return "", false
	}
	body, there = done(body, there, op(impl.OpRead, 0, ""))
	for _, o := range list {
		body, there = done(body, there, o)
	}
	return body, there
}

// opForm returns the binary form of an operation.
func opForm(o impl.Op) string {
	form := binary.AppendUvarint(binary.AppendUvarint(nil, uint64(o.Kind)), uint64(o.At))
	return string(form) + putText(o.Bytes)
}

// opIn returns the operation whose form s starts with, and the length of that.
func opIn(s string) (impl.Op, int64, bool) {
	kind, n := binary.Uvarint([]byte(s))
	at, m := binary.Uvarint([]byte(s[max(n, 0):]))
	size, k := binary.Uvarint([]byte(s[max(n, 0)+max(m, 0):]))
	start := uint64(n + m + k)
	if n < 1 || m < 1 || k < 1 || size > 64 || start+size > uint64(len(s)) {
		return impl.Op{}, 0, false
	}
	o := op(int64(kind), int64(at), s[start:start+size])
	if !isOp(simplest, o) || !strings.HasPrefix(s, opForm(o)) {
		return impl.Op{}, 0, false
	}
	return o, int64(len(opForm(o))), true
}

// rightOps are valid for the simplest code.
func rightOps() []impl.Op {
	list := []impl.Op{op(impl.OpRead, 0, ""), op(impl.OpDelete, 0, "")}
	for _, n := range []int{0, 1, 2, 5, 32, 63, 64} {
		bytes := strings.Repeat("pqrstuvw", 8)[:n]
		list = append(list, op(impl.OpFull, 0, bytes), op(impl.OpAppend, 0, bytes))
		for _, at := range []int64{0, 1, 2, 3, 31, 62, 63, 64} {
			list = append(list, op(impl.OpWrite, at, bytes), op(impl.OpCut, at, ""))
		}
	}
	return list
}

// wrongOps are not valid for any code.
func wrongOps() []impl.Op {
	long := strings.Repeat("l", 65)
	list := []impl.Op{
		{}, op(7, 0, ""), op(-1, 0, ""), op(0, 1, "a"), op(9, 0, "a"), op(impl.OpRead, 1, ""), op(impl.OpRead, 0, "a"), op(impl.OpRead, -1, ""), op(impl.OpDelete, 1, ""), op(impl.OpDelete, 0, "a"), op(impl.OpDelete, 0, "\x00"),
		op(impl.OpFull, 1, "a"), op(impl.OpFull, -1, "a"), op(impl.OpFull, 0, long), op(impl.OpWrite, -1, "a"), op(impl.OpWrite, 65, "a"), op(impl.OpWrite, 65, ""), op(impl.OpWrite, 0, long),
		op(impl.OpAppend, 1, "a"), op(impl.OpAppend, -1, ""), op(impl.OpAppend, 0, long), op(impl.OpCut, -1, ""), op(impl.OpCut, 65, ""), op(impl.OpCut, 1, "a"), op(impl.OpCut, 0, "\x00"),
	}
	for _, n := range farNumbers() {
		list = append(list, op(n, 0, ""))
		for kind := int64(1); kind <= 6; kind++ {
			list = append(list, op(kind, n, ""), op(kind+n, 0, ""), op(kind+1<<8, 0, ""))
		}
	}
	for kind := int64(1); kind <= 6; kind++ {
		list = append(list, op(kind, 65, long), op(kind, 0, strings.Repeat("m", 1000)))
	}
	return list
}

// someOp returns a valid operation, of which no kind is rare.
func someOp(r *rand.Rand) impl.Op {
	bytes := someBytes(r, r.IntN(12)*r.IntN(6))
	switch kind := r.Int64N(6) + 1; kind {
	case impl.OpFull, impl.OpAppend:
		return op(kind, 0, bytes)
	case impl.OpWrite:
		return op(kind, r.Int64N(65), bytes)
	case impl.OpCut:
		return op(kind, r.Int64N(65), "")
	default:
		return op(kind, 0, "")
	}
}

func someOps(r *rand.Rand, n int) []impl.Op {
	var list []impl.Op
	for range n {
		list = append(list, someOp(r))
	}
	return list
}

func wantObject(t *testing.T, name string, got string, there bool, want string, wantThere bool) {
	t.Helper()
	if got != want || there != wantThere {
		t.Errorf("%s: %q, %v; want %q, %v", name, got, there, want, wantThere)
	}
}

// P21: the constants are those of the document.
func TestOpConstants(t *testing.T) {
	wantSame(t, "the constants", []int{impl.MaxName, impl.OpRead, impl.OpFull, impl.OpWrite, impl.OpAppend, impl.OpCut, impl.OpDelete}, []int{8, 1, 2, 3, 4, 5, 6})
}

// P21: an operation is valid as the document's table has it; what changes a part
// of an object, for one data shard only.
func TestOpOk(t *testing.T) {
	c := impl.Code{K: 2, M: 1}
	wantOk(t, "the example's OpFull", impl.OpOk(c, op(impl.OpFull, 0, "ab")), true)
	wantOk(t, "the example's OpAppend", impl.OpOk(c, op(impl.OpAppend, 0, "c")), false)
	for _, c := range append(allCodes(), wrongCodes()...) {
		for _, o := range append(rightOps(), wrongOps()...) {
			wantOk(t, fmt.Sprintf("OpOk(%v, %v)", c, o), impl.OpOk(c, o), isOp(c, o))
		}
	}
	for _, o := range rightOps() {
		wantOk(t, fmt.Sprintf("the right %v", o), impl.OpOk(simplest, o), true)
		wantOk(t, fmt.Sprintf("%v with copies", o), impl.OpOk(impl.Code{K: 1, M: 3}, o), true)
		inPart := o.Kind == impl.OpWrite || o.Kind == impl.OpAppend || o.Kind == impl.OpCut
		wantOk(t, fmt.Sprintf("%v with more data shards", o), impl.OpOk(impl.Code{K: 4, M: 3}, o), !inPart)
	}
	for _, o := range wrongOps() {
		for _, c := range allCodes() {
			wantOk(t, fmt.Sprintf("the wrong %v", o), impl.OpOk(c, o), false)
		}
	}
}

// P21: only the kind tells whether an operation reads.
func TestReads(t *testing.T) {
	for _, o := range slices.Concat(rightOps(), wrongOps(), []impl.Op{op(impl.OpRead, -7, strings.Repeat("a", 99))}) {
		wantOk(t, fmt.Sprintf("Reads(%v)", o), impl.Reads(o), o.Kind == 1)
	}
}

// P21: the document's examples, and what it says beside them.
func TestOpExamples(t *testing.T) {
	full, half := strings.Repeat("f", 64), strings.Repeat("h", 32)
	for _, x := range []struct {
		body  string
		there bool
		o     impl.Op
		want  string
		is    bool
	}{
		{"abc", true, op(impl.OpWrite, 1, "XY"), "aXY", true},
		{"abc", true, op(impl.OpWrite, 5, "z"), "abc\x00\x00z", true},
		{"abc", true, op(impl.OpCut, 2, ""), "ab", true},
		{"abc", true, op(impl.OpRead, 0, ""), "abc", true},
		{"abc", true, op(impl.OpFull, 0, "z"), "z", true},
		{"abc", true, op(impl.OpFull, 0, ""), "", true},
		{"abc", true, op(impl.OpWrite, 1, "X"), "aXc", true},
		{"abc", true, op(impl.OpWrite, 1, ""), "abc", true},
		{"abc", true, op(impl.OpWrite, 5, ""), "abc\x00\x00", true},
		{"abc", true, op(impl.OpWrite, 64, "z"), "abc" + strings.Repeat("\x00", 61), true},
		{"abc", true, op(impl.OpWrite, 63, "zy"), "abc" + strings.Repeat("\x00", 60) + "z", true},
		{"abc", true, op(impl.OpAppend, 0, "de"), "abcde", true},
		{full, true, op(impl.OpAppend, 0, "de"), full, true},
		{full[:63], true, op(impl.OpAppend, 0, "de"), full[:63] + "d", true},
		{half, true, op(impl.OpAppend, 0, full), half + full[:32], true},
		{half, true, op(impl.OpWrite, 32, full), half + full[:32], true},
		{"abc", true, op(impl.OpCut, 0, ""), "", true},
		{"abc", true, op(impl.OpCut, 3, ""), "abc", true},
		{"abc", true, op(impl.OpCut, 64, ""), "abc", true},
		{"abc", true, op(impl.OpDelete, 0, ""), "", false},
		// The contents of an object that does not exist are empty.
		{"", false, op(impl.OpRead, 0, ""), "", false},
		{"abc", false, op(impl.OpRead, 0, ""), "", false},
		{"", false, op(impl.OpFull, 0, ""), "", true},
		{"abc", false, op(impl.OpFull, 0, "z"), "z", true},
		{"", false, op(impl.OpWrite, 2, "z"), "\x00\x00z", true},
		{"abc", false, op(impl.OpWrite, 2, "z"), "\x00\x00z", true},
		{"", false, op(impl.OpWrite, 0, ""), "", true},
		{"abc", false, op(impl.OpAppend, 0, "z"), "z", true},
		{"", false, op(impl.OpAppend, 0, ""), "", true},
		{"", false, op(impl.OpCut, 0, ""), "", false},
		{"abc", false, op(impl.OpCut, 2, ""), "", false},
		{"abc", false, op(impl.OpDelete, 0, ""), "", false},
		// What is not valid.
		{"abc", true, op(9, 0, ""), "", false},
		{"abc", true, op(impl.OpRead, 1, ""), "", false},
		{full + "f", true, op(impl.OpRead, 0, ""), "", false},
		{full + "f", true, op(impl.OpFull, 0, "z"), "", false},
		{full + "f", false, op(impl.OpFull, 0, "z"), "", false},
	} {
		got, there := impl.ApplyOp(x.body, x.there, x.o)
		wantObject(t, fmt.Sprintf("ApplyOp(%q, %v, %v)", x.body, x.there, x.o), got, there, x.want, x.is)
		got, there = done(x.body, x.there, x.o)
		wantObject(t, fmt.Sprintf("done(%q, %v, %v)", x.body, x.there, x.o), got, there, x.want, x.is)
	}
}

// P21: every operation does to every object what the document says.
func TestApplyOp(t *testing.T) {
	r := source(160)
	list := append(rightOps(), wrongOps()...)
	for n := range 70 {
		body := someBytes(r, n)
		for _, o := range list {
			for _, there := range []bool{true, false} {
				got, is := impl.ApplyOp(body, there, o)
				want, wantIs := done(body, there, o)
				wantObject(t, fmt.Sprintf("ApplyOp(%q, %v, %v)", body, there, o), got, is, want, wantIs)
			}
		}
	}
}

// P21: writes and cuts at every offset in bodies of every length.
func TestOpsAtEveryOffset(t *testing.T) {
	full := strings.Repeat("abcdefgh", 8)
	for n := range 65 {
		for at := range int64(65) {
			for _, bytes := range []string{"", "X", "XYZ", full} {
				got, there := impl.ApplyOp(full[:n], true, op(impl.OpWrite, at, bytes))
				want, _ := done(full[:n], true, op(impl.OpWrite, at, bytes))
				wantObject(t, "a write", got, there, want, true)
			}
			got, there := impl.ApplyOp(full[:n], true, op(impl.OpCut, at, ""))
			wantObject(t, "a cut", got, there, full[:min(n, int(at))], true)
		}
	}
}

// P21: a list of operations does what they do one by one, and as a whole what it
// does in two parts; no body is longer than MaxBody.
func TestOpsInTwoParts(t *testing.T) {
	r := source(161)
	full, gone := 0, 0
	for range 2000 {
		list := someOps(r, r.IntN(25))
		body, there := someBytes(r, r.IntN(65)), r.IntN(3) > 0
		want, wantIs := allDone(body, there, list)
		got, is := impl.ApplyOps(body, there, list)
		wantObject(t, fmt.Sprint("ApplyOps of ", list), got, is, want, wantIs)
		if len(got) > impl.MaxBody {
			t.Fatalf("a body of %d bytes", len(got))
		}
		for n := range len(list) + 1 {
			half, has := impl.ApplyOps(body, there, list[:n])
			got, is := impl.ApplyOps(half, has, list[n:])
			wantObject(t, fmt.Sprint("in two parts, ", n, " of ", list), got, is, want, wantIs)
		}
		if len(want) == 64 {
			full++
		}
		if !wantIs {
			gone++
		}
	}
	if full < 100 || gone < 100 {
		t.Errorf("only %d full bodies and %d objects that do not exist", full, gone)
	}
}

// P21: the document's example of a list, its limits, and what is not valid.
func TestApplyOpsLimits(t *testing.T) {
	got, is := impl.ApplyOps("", false, []impl.Op{op(impl.OpFull, 0, "ab"), op(impl.OpAppend, 0, "c")})
	wantObject(t, "the example", got, is, "abc", true)
	adds := slices.Repeat([]impl.Op{op(impl.OpAppend, 0, "x")}, 25)
	got, is = impl.ApplyOps("a", true, adds[:24])
	wantObject(t, "as many as there may be", got, is, "a"+strings.Repeat("x", 24), true)
	got, is = impl.ApplyOps("a", true, adds)
	wantObject(t, "one more", got, is, "", false)
	for _, list := range [][]impl.Op{nil, {}} {
		got, is = impl.ApplyOps("abc", true, list)
		wantObject(t, "no operations", got, is, "abc", true)
		got, is = impl.ApplyOps("abc", false, list)
		wantObject(t, "no operations, and no object", got, is, "", false)
		got, is = impl.ApplyOps(strings.Repeat("a", 65), true, list)
		wantObject(t, "no operations on too long a body", got, is, "", false)
	}
	got, is = impl.ApplyOps(strings.Repeat("a", 65), true, adds[:1])
	wantObject(t, "too long a body", got, is, "", false)
	for n := range 25 {
		for _, o := range wrongOps() {
			list := slices.Insert(slices.Repeat([]impl.Op{op(impl.OpFull, 0, "f")}, min(n, 23)), min(n, 23), o)
			got, is = impl.ApplyOps("abc", true, list)
			wantObject(t, fmt.Sprint("with the wrong ", o), got, is, "", false)
			got, is = impl.ApplyOps("abc", true, append([]impl.Op{o}, list[:min(n, 23)]...))
			wantObject(t, fmt.Sprint("behind the wrong ", o), got, is, "", false)
		}
	}
}

// P21: reading changes nothing, and appending is writing at the end.
func TestReadingAndAppending(t *testing.T) {
	r := source(162)
	for n := range 65 {
		body := someBytes(r, n)
		got, is := impl.ApplyOp(body, true, op(impl.OpRead, 0, ""))
		wantObject(t, "reading", got, is, body, true)
		for range 40 {
			bytes := someBytes(r, r.IntN(65))
			added, is := impl.ApplyOp(body, true, op(impl.OpAppend, 0, bytes))
			written, wasThere := impl.ApplyOp(body, true, op(impl.OpWrite, int64(n), bytes))
			wantObject(t, "appending", added, is, written, wasThere)
			wantObject(t, "appending", added, is, (body + bytes)[:min(64, n+len(bytes))], true)
			first, _ := impl.ApplyOp("", false, op(impl.OpAppend, 0, bytes))
			wantObject(t, "appending to nothing", first, true, bytes, true)
			list := someOps(r, 11)
			reads := slices.Clone(list)
			for i := range 12 {
				reads = slices.Insert(reads, 2*i, op(impl.OpRead, 0, ""))
			}
			got, is = impl.ApplyOps(body, true, list)
			among, amongIs := impl.ApplyOps(body, true, reads)
			wantObject(t, "with reads in between", among, amongIs, got, is)
		}
	}
}

// P21: an operation has the binary form of the document and comes back from it,
// whatever follows.
func TestOpForm(t *testing.T) {
	if got := impl.PutOp(op(impl.OpFull, 0, "ab")); got != "\x02\x00\x02ab" {
		t.Errorf("the example: %x", got)
	}
	r := source(163)
	for _, o := range append(rightOps(), someOps(r, 300)...) {
		form := impl.PutOp(o)
		if form != opForm(o) {
			t.Errorf("PutOp(%v): %x; want %x", o, form, opForm(o))
		}
		for _, behind := range []string{"", "\x00", "\x80", form, someBytes(r, 9)} {
			got, size, ok := impl.GetOp(form + behind)
			if got != o || size != int64(len(form)) || !ok {
				t.Errorf("GetOp of %x: %v, %d, %v; want %v", form+behind, got, size, ok, o)
			}
		}
		for n := range len(form) {
			wantNoOp(t, form[:n])
		}
	}
	for _, o := range wrongOps() {
		if got := impl.PutOp(o); got != "" {
			t.Errorf("PutOp(%v): %x", o, got)
		}
		if o.Kind >= 0 && o.At >= 0 {
			wantNoOp(t, opForm(o))
			wantNoOp(t, opForm(o)+strings.Repeat("\x00", 100))
		}
	}
}

func wantNoOp(t *testing.T, s string) {
	t.Helper()
	if o, size, ok := impl.GetOp(s); o != (impl.Op{}) || size != 0 || ok {
		t.Errorf("GetOp of %x: %v, %d, %v", s, o, size, ok)
	}
}

// P21: what is not the form of a valid operation is none, also if it is but one
// byte away from one.
func TestGetOp(t *testing.T) {
	wantNoOp(t, "\x09\x00\x00")
	wantNoOp(t, "\x82\x00\x00\x02ab")
	wantNoOp(t, "\x02\x80\x00\x02ab")
	wantNoOp(t, "\x02\x00\x82\x00ab")
	wantNoOp(t, "\x02\x00\x41"+strings.Repeat("a", 65))
	wantNoOp(t, "\x02\x00\x80\x80\x80\x80\x80\x80\x80\x80\x40")
	texts := anyTexts()
	for _, o := range rightOps() {
		form := opForm(o) + "!"
		for i := range form {
			for b := range 256 {
				texts = append(texts, form[:i]+string([]byte{byte(b)})+form[i+1:])
			}
		}
	}
	is := 0
	for _, s := range texts {
		got, size, ok := impl.GetOp(s)
		want, wantSize, wantIs := opIn(s)
		if got != want || size != wantSize || ok != wantIs {
			t.Fatalf("GetOp of %x: %v, %d, %v; want %v, %d, %v", s, got, size, ok, want, wantSize, wantIs)
		}
		if ok {
			is++
		}
	}
	if is < 1000 || is > len(texts)-1000 {
		t.Errorf("%d of %d texts are operations", is, len(texts))
	}
}
