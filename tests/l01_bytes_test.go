package tests

import (
	"math"
	"strings"
	"testing"

	"loop.example/g00849/impl"
)

func TestErrorCodesAndWords(t *testing.T) {
	codes := []int64{impl.OK, impl.ErrForm, impl.ErrRange, impl.ErrNone, impl.ErrMany, impl.ErrState, impl.ErrOld, impl.ErrRead, impl.ErrFew, impl.ErrSum}
	words := []string{"ok", "form", "range", "none", "many", "state", "old", "read", "few", "sum"}
	for i, code := range codes {
		if code != int64(i) || impl.CodeWord(code) != words[i] {
			t.Errorf("code %d is %d, %q; want %q", i, code, impl.CodeWord(code), words[i])
		}
	}
	for _, code := range []int64{-1, 10, 11, 256, 1 << 32, math.MinInt64, math.MaxInt64} {
		if word := impl.CodeWord(code); word != "" {
			t.Errorf("CodeWord(%d) = %q", code, word)
		}
	}
}

// tails are what may stand behind an encoding.
func tails() []string {
	return []string{"", "\x00", "\x01", "\x7f", "\x80", "\xff", "\x80\x00", "abc", strings.Repeat("\xff", 12)}
}

func varNumbers() []int64 {
	list := []int64{0, 1, 127, 128, 300, 16383, 16384, 1<<62 - 1, 1 << 62}
	for bit := range 62 {
		n := int64(1) << bit
		list = append(list, n-1, n, n+1)
	}
	r := source(1)
	for range 2000 {
		list = append(list, r.Int64N(1<<62)>>r.IntN(62))
	}
	return list
}

// P2: a number comes back from its encoding, whatever follows.
func TestVarIsRecovered(t *testing.T) {
	for _, n := range varNumbers() {
		s := impl.PutVar(n)
		size := 1
		for m := n; m >= 128; m /= 128 {
			size++
		}
		if len(s) != size || size > 9 {
			t.Fatalf("PutVar(%d) = %x; want %d bytes", n, s, size)
		}
		for _, tail := range tails() {
			got, used, ok := impl.GetVar(s + tail)
			if got != n || used != int64(size) || !ok {
				t.Fatalf("GetVar(%x + %x) = %d, %d, %v; want %d, %d", s, tail, got, used, ok, n, size)
			}
		}
	}
}

func TestPutVarExamples(t *testing.T) {
	for n, want := range map[int64]string{
		0: "\x00", 1: "\x01", 127: "\x7f", 128: "\x80\x01", 300: "\xac\x02", 16383: "\xff\x7f", 16384: "\x80\x80\x01",
		1<<62 - 1: "\xff\xff\xff\xff\xff\xff\xff\xff\x3f", 1 << 62: "\x80\x80\x80\x80\x80\x80\x80\x80\x40",
	} {
		if got := impl.PutVar(n); got != want {
			t.Errorf("PutVar(%d) = %x; want %x", n, got, want)
		}
	}
	for _, n := range []int64{-1, -128, math.MinInt64, 1<<62 + 1, math.MaxInt64} {
		if got := impl.PutVar(n); got != "" {
			t.Errorf("PutVar(%d) = %x", n, got)
		}
	}
}

func wantNoVar(t *testing.T, s string) {
	t.Helper()
	if n, used, ok := impl.GetVar(s); n != 0 || used != 0 || ok {
		t.Errorf("GetVar(%x) = %d, %d, %v", s, n, used, ok)
	}
}

func TestGetVarRefusesUnfinished(t *testing.T) {
	for _, n := range varNumbers() {
		s := impl.PutVar(n)
		for cut := range len(s) {
			wantNoVar(t, s[:cut])
		}
	}
	for size := range 20 {
		wantNoVar(t, strings.Repeat("\x80", size))
		wantNoVar(t, strings.Repeat("\xff", size))
	}
}

// An encoding of n that is longer than it needs to be ends with a zero byte.
func TestGetVarRefusesNotMinimal(t *testing.T) {
	wantNoVar(t, "\x80\x00")
	for _, n := range varNumbers() {
		s := []byte(impl.PutVar(n))
		s[len(s)-1] |= 128
		for zeros := range 3 {
			padded := string(s) + strings.Repeat("\x80", zeros) + "\x00"
			for _, tail := range tails() {
				wantNoVar(t, padded+tail)
			}
		}
	}
}

func TestGetVarRefusesTooLarge(t *testing.T) {
	for _, s := range []string{
		"\x81\x80\x80\x80\x80\x80\x80\x80\x40", // 2^62 + 1
		"\x80\x80\x80\x80\x80\x80\x80\x80\x41",
		"\x80\x80\x80\x80\x80\x80\x80\x80\x60",
		"\xff\xff\xff\xff\xff\xff\xff\xff\x7f", // 2^63 - 1
		"\x80\x80\x80\x80\x80\x80\x80\x80\x80\x01",
		"\x81\x80\x80\x80\x80\x80\x80\x80\x80\x02", // 2^64 + 1
		"\x81\x80\x80\x80\x80\x80\x80\x80\x80\x80\x01",
	} {
		wantNoVar(t, s)
		wantNoVar(t, s+"\x01")
	}
}

func TestGetVarOfTwoBytes(t *testing.T) {
	for a := range 256 {
		for b := range 256 {
			s := string([]byte{byte(a), byte(b)})
			n, used, ok := impl.GetVar(s)
			switch {
			case a < 128:
				if n != int64(a) || used != 1 || !ok {
					t.Fatalf("GetVar(%x) = %d, %d, %v", s, n, used, ok)
				}
			case b > 0 && b < 128:
				if n != int64(a-128+128*b) || used != 2 || !ok {
					t.Fatalf("GetVar(%x) = %d, %d, %v", s, n, used, ok)
				}
			default:
				wantNoVar(t, s)
			}
		}
	}
}

// P2: a string comes back from its encoding, whatever follows.
func TestTextIsRecovered(t *testing.T) {
	r := source(2)
	for _, size := range []int{0, 1, 2, 3, 8, 63, 64, 126, 127, 128, 129, 300, 16383, 16384, 70000} {
		text := someBytes(r, size)
		s := impl.PutText(text)
		if s != impl.PutVar(int64(size))+text {
			t.Fatalf("PutText of %d bytes", size)
		}
		for _, tail := range tails() {
			got, used, ok := impl.GetText(s + tail)
			if got != text || used != int64(len(s)) || !ok {
				t.Fatalf("GetText of %d bytes and %x: %d bytes, %d, %v", size, tail, len(got), used, ok)
			}
		}
	}
}

func TestTextExamples(t *testing.T) {
	if got := impl.PutText("abc"); got != "\x03abc" {
		t.Errorf("PutText = %x", got)
	}
	if got := impl.PutText(""); got != "\x00" {
		t.Errorf("PutText = %x", got)
	}
	if got, used, ok := impl.GetText("\x03abcd"); got != "abc" || used != 4 || !ok {
		t.Errorf("GetText = %q, %d, %v", got, used, ok)
	}
	if got, used, ok := impl.GetText("\x00"); got != "" || used != 1 || !ok {
		t.Errorf("GetText = %q, %d, %v", got, used, ok)
	}
}

func TestGetTextRefuses(t *testing.T) {
	list := []string{
		"", "\x01", "\x03ab", "\x80", "\x80\x00", "\x83\x00abc", "\x83\x80\x00abc",
		"\xff\xff\xff\xff\xff\xff\xff\xff\x3fabc", "\x80\x80\x80\x80\x80\x80\x80\x80\x40abc", "\x81\x80\x80\x80\x80\x80\x80\x80\x40abc",
		"\xff\xff\xff\xff\xff\xff\xff\xff\x7fabc", "\xff\xff\xff\xff\xff\xff\xff\xff\xff\x01abc",
	}
	s := impl.PutText(someBytes(source(3), 300))
	for cut := range len(s) {
		list = append(list, s[:cut])
	}
	for _, s := range list {
		if got, used, ok := impl.GetText(s); got != "" || used != 0 || ok {
			t.Errorf("GetText(%x) = %x, %d, %v", s, got, used, ok)
		}
	}
}

func TestMixExamples(t *testing.T) {
	for _, v := range []struct {
		words []int64
		want  int64
	}{
		{nil, 2166136261}, {[]int64{}, 2166136261}, {[]int64{0}, 3038686923}, {[]int64{1}, 1796276662},
		{[]int64{-1}, 2520407210}, {[]int64{1, 2, 3}, 3923185177}, {[]int64{3, 2, 1}, 424463101}, {[]int64{2, 3}, 1717327502},
		{[]int64{0, 0, 0, 0}, 105116999},
	} {
		if got := impl.Mix(v.words); got != v.want {
			t.Errorf("Mix(%v) = %d; want %d", v.words, got, v.want)
		}
	}
}

// mixOf follows the definition in 64 bits with a reduction after each step.
func mixOf(words []int64) int64 {
	const most = 1<<32 - 1
	h := uint64(2166136261)
	for _, w := range words {
		h = ((h ^ uint64(w)&most) * 16777619) & most
		h ^= h >> 15
		h = (h * 1540483477) & most
		h ^= h >> 13
	}
	return int64(h)
}

// P4: Mix depends on every word modulo 2^32, and on nothing else.
func TestMixDependsOnEveryWord(t *testing.T) {
	r := source(4)
	for size := range 12 {
		for range 50 {
			words := make([]int64, size)
			for i := range words {
				words[i] = int64(r.Uint64()) >> r.IntN(64)
			}
			hash := impl.Mix(words)
			if hash != mixOf(words) || hash < 0 || hash > 1<<32-1 {
				t.Fatalf("Mix(%v) = %d; want %d", words, hash, mixOf(words))
			}
			for i, w := range words {
				for bit := range 64 {
					words[i] = w ^ 1<<bit
					if same := impl.Mix(words) == hash; same != (bit >= 32) {
						t.Fatalf("Mix(%v) with bit %d of word %d turned: equal is %v", words, bit, i, same)
					}
				}
				words[i] = w
			}
			if impl.Mix(append(words, 0)) == hash {
				t.Fatalf("Mix(%v): a further word has no effect", words)
			}
		}
	}
}

// P4: the order counts, and so does the sign of a word that is reduced.
func TestMixReducesWords(t *testing.T) {
	for _, w := range []int64{0, 1, -1, 77, 1 << 31, -1 << 31, 1<<32 - 1} {
		for _, times := range []int64{-1 << 31, -2, -1, 1, 2, 1<<31 - 1} {
			if impl.Mix([]int64{5, w, 6}) != impl.Mix([]int64{5, w + times<<32, 6}) {
				t.Errorf("Mix of %d and of %d more than it differ", w, times<<32)
			}
		}
	}
	if impl.Mix([]int64{1, 2}) == impl.Mix([]int64{2, 1}) {
		t.Error("Mix does not depend on the order")
	}
}

// crcOf follows the definition bit by bit.
func crcOf(s string) int64 {
	c := uint32(4294967295)
	for i := range len(s) {
		c ^= uint32(s[i])
		for range 8 {
			if c%2 == 1 {
				c = c>>1 ^ 2197175160
			} else {
				c >>= 1
			}
		}
	}
	return int64(c ^ 4294967295)
}

func TestCrcExamples(t *testing.T) {
	for s, want := range map[string]int64{"": 0, "a": 3251651376, "abc": 910901175, "123456789": 3808858755} {
		if got := impl.Crc(s); got != want {
			t.Errorf("Crc(%q) = %d; want %d", s, got, want)
		}
	}
	r := source(5)
	for size := range 300 {
		if s := someBytes(r, size); impl.Crc(s) != crcOf(s) {
			t.Fatalf("Crc(%x) = %d; want %d", s, impl.Crc(s), crcOf(s))
		}
	}
	for b := range 256 {
		if s := string([]byte{byte(b)}); impl.Crc(s) != crcOf(s) {
			t.Fatalf("Crc(%x) = %d; want %d", s, impl.Crc(s), crcOf(s))
		}
	}
}

// P3: no change of one byte goes unnoticed.
func TestCrcNoticesOneByte(t *testing.T) {
	r := source(6)
	for _, size := range []int{1, 2, 3, 4, 5, 17, 64, 200} {
		s := []byte(someBytes(r, size))
		sum := impl.Crc(string(s))
		for at := range s {
			for by := 1; by < 256; by++ {
				s[at] ^= byte(by)
				if impl.Crc(string(s)) == sum {
					t.Fatalf("byte %d of %d turned by %d: the same checksum", at, size, by)
				}
				s[at] ^= byte(by)
			}
		}
	}
}

// P3: no change within four consecutive bytes goes unnoticed.
func TestCrcNoticesFourBytes(t *testing.T) {
	r := source(7)
	for _, size := range []int{1, 2, 3, 4, 5, 30, 100} {
		s := []byte(someBytes(r, size))
		sum := impl.Crc(string(s))
		for at := range s {
			window := s[at:min(at+4, size)]
			old := string(window)
			for range 500 {
				copy(window, someBytes(r, len(window)))
				if changed := string(window) != old; changed != (impl.Crc(string(s)) != sum) {
					t.Fatalf("bytes %x at %d of %d became %x: changed is %v", old, at, size, window, changed)
				}
			}
			copy(window, old)
		}
	}
}

func TestHexIsRecovered(t *testing.T) {
	if got := impl.PutHex("\x00\xffa"); got != "00ff61" {
		t.Errorf("PutHex = %q", got)
	}
	all := make([]byte, 256)
	for i := range all {
		all[i] = byte(i)
	}
	for _, s := range []string{"", "\x00", "\x00\xffa", "\x0f\xf0", "hello", string(all)} {
		digits := impl.PutHex(s)
		if got, ok := impl.GetHex(digits); len(digits) != 2*len(s) || got != s || !ok {
			t.Errorf("PutHex(%x) = %q; GetHex of it = %x, %v", s, digits, got, ok)
		}
	}
}

func TestHexOfTwoBytes(t *testing.T) {
	const digits = "0123456789abcdef"
	for a := range 256 {
		for b := range 256 {
			s := string([]byte{byte(a), byte(b)})
			high, low := strings.IndexByte(digits, byte(a)), strings.IndexByte(digits, byte(b))
			want, wantOk := "", high >= 0 && low >= 0
			if wantOk {
				want = string([]byte{byte(16*high + low)})
			}
			if got, ok := impl.GetHex(s); got != want || ok != wantOk {
				t.Fatalf("GetHex(%q) = %x, %v; want %x, %v", s, got, ok, want, wantOk)
			}
		}
	}
}

func TestGetHexRefuses(t *testing.T) {
	for _, s := range []string{"FF", "0", "000", "0g", "0F", " 0", "0 ", "0x", "-1", "00ff6", "00fg61", "0000 ", "é", "00é", "\xff\xff", "0\xff", "00\xef\xbf\xbd0", "\U0001d7d8", "\xef\xbc\x910"} {
		if got, ok := impl.GetHex(s); got != "" || ok {
			t.Errorf("GetHex(%q) = %x, %v", s, got, ok)
		}
	}
}
