package tests

import (
	"math"
	"slices"
	"strings"
	"testing"

	"loop.example/g00849/impl"
)

// allCodes returns every valid code.
func allCodes() []impl.Code {
	var list []impl.Code
	for k := int64(1); k <= 4; k++ {
		for m := range int64(4) {
			list = append(list, impl.Code{K: k, M: m})
		}
	}
	return list
}

// wrongCodes are not valid, each by one of its numbers or by both.
func wrongCodes() []impl.Code {
	list := []impl.Code{{K: 0, M: 0}, {K: 0, M: 2}, {K: 5, M: 0}, {K: 5, M: 3}, {K: 1, M: -1}, {K: 4, M: 4}, {K: 0, M: -1}, {K: 5, M: 4}, {K: 5, M: -1}, {K: -1, M: 4}}
	for _, n := range []int64{-1, -2, 8, 1 << 32, 1<<32 + 1, 1 << 62, math.MinInt64, math.MaxInt64} {
		list = append(list, impl.Code{K: n, M: 1}, impl.Code{K: 2, M: n}, impl.Code{K: n, M: n}, impl.Code{K: n, M: -n}, impl.Code{K: n, M: 3 - n})
	}
	return list
}

// wrongSizes are no sizes of a body of at most limit bytes.
func wrongSizes(limit int64) []int64 {
	return []int64{-1, -2, -limit, limit + 1, limit + 2, 1 << 32, 1<<32 + 1, 1 << 62, math.MinInt64, math.MaxInt64}
}

// bodies returns bodies of n bytes; all but the first end with zero bytes, if
// they are not too short.
func bodies(seed uint64, n int) []string {
	r := source(seed)
	return []string{someBytes(r, n), someBytes(r, n-n/3) + strings.Repeat("\x00", n/3), someBytes(r, n-n/8) + strings.Repeat("\x00", n/8), strings.Repeat("\x00", n)}
}

// sizeOf returns the shard size: the least with which K shards hold n bytes.
func sizeOf(c impl.Code, n int) int {
	size := 0
	for size*int(c.K) < n {
		size++
	}
	return size
}

// shardsOf follows the definition.
func shardsOf(c impl.Code, body string) []string {
	size := sizeOf(c, len(body))
	padded := body + strings.Repeat("\x00", size*int(c.K)-len(body))
	var data []string
	for i := range int(c.K) {
		data = append(data, padded[i*size:(i+1)*size])
	}
	return piecesOf(generator(c.K, c.M), data)
}

// picked returns the shards at the given indices.
func picked(all []string, positions ...int64) []impl.Shard {
	var list []impl.Shard
	for _, pos := range positions {
		list = append(list, impl.Shard{Pos: pos, Bytes: all[pos]})
	}
	return list
}

const hello = "hello world"

var helloCode = impl.Code{K: 3, M: 2}

func helloShards() []string {
	return []string{"hell", "o wo", "rld\x00", "\x28\xe1\x02\xba", "\xb3\x54\xb3\xeb"}
}

func TestLimitsOfCodes(t *testing.T) {
	if impl.MaxK != 4 || impl.MaxM != 3 || impl.MaxBody != 64 {
		t.Errorf("MaxK = %d, MaxM = %d, MaxBody = %d", impl.MaxK, impl.MaxM, impl.MaxBody)
	}
}

func TestCodeOk(t *testing.T) {
	for _, c := range allCodes() {
		if !impl.CodeOk(c) {
			t.Errorf("%v is not valid", c)
		}
	}
	for _, c := range wrongCodes() {
		if impl.CodeOk(c) {
			t.Errorf("%v is valid", c)
		}
	}
}

func TestPieceSize(t *testing.T) {
	for _, c := range allCodes() {
		for n := range int64(65) {
			got, code := impl.PieceSize(c, n)
			wantNumber(t, "PieceSize", got, code, int64(sizeOf(c, int(n))), impl.OK)
		}
		for _, n := range wrongSizes(64) {
			got, code := impl.PieceSize(c, n)
			wantNumber(t, "PieceSize", got, code, 0, impl.ErrRange)
		}
	}
	for _, c := range wrongCodes() {
		for _, n := range []int64{0, 1, 64, 65, -1} {
			got, code := impl.PieceSize(c, n)
			wantNumber(t, "PieceSize of no code", got, code, 0, impl.ErrForm)
		}
	}
}

func wantShards(t *testing.T, c impl.Code, body string, want []string) {
	t.Helper()
	got, ok := impl.ShardsOf(c, body)
	if !ok || !slices.Equal(got, want) {
		t.Fatalf("ShardsOf(%v, %q) = %q, %v; want %q", c, body, got, ok, want)
	}
	for pos := range c.K + c.M {
		got, code := impl.ShardAt(c, body, pos)
		wantText(t, "ShardAt", got, code, want[pos], impl.OK)
	}
}

func TestShardsExamples(t *testing.T) {
	wantShards(t, helloCode, hello, helloShards())
	wantShards(t, impl.Code{K: 2, M: 1}, "", []string{"", "", ""})
	wantShards(t, impl.Code{K: 4, M: 3}, "x", []string{"x", "\x00", "\x00", "\x00", "x", "x", "x"})
	wantShards(t, impl.Code{K: 4, M: 0}, "abcde", []string{"ab", "cd", "e\x00", "\x00\x00"})
	wantShards(t, impl.Code{K: 2, M: 0}, "ab\x00\x00", []string{"ab", "\x00\x00"})
}

func TestShardsAreAsDefined(t *testing.T) {
	for _, c := range allCodes() {
		for n := range 65 {
			for _, body := range bodies(30, n) {
				wantShards(t, c, body, shardsOf(c, body))
			}
		}
	}
}

// P8: for K = 1 every shard is the body.
func TestOneDataShardIsTheBody(t *testing.T) {
	for m := range int64(4) {
		for n := range 65 {
			for _, body := range bodies(31, n) {
				wantShards(t, impl.Code{K: 1, M: m}, body, slices.Repeat([]string{body}, int(1+m)))
			}
		}
	}
}

func TestShardsRefuse(t *testing.T) {
	for _, n := range []int{65, 66, 128, 5000} {
		body := strings.Repeat("\x00", n)
		for _, c := range allCodes() {
			if got, ok := impl.ShardsOf(c, body); got != nil || ok {
				t.Errorf("ShardsOf(%v) of %d bytes: %q, %v", c, n, got, ok)
			}
			for _, pos := range []int64{0, -1, 9} {
				got, code := impl.ShardAt(c, body, pos)
				wantText(t, "ShardAt of a long body", got, code, "", impl.ErrMany)
			}
		}
	}
	for _, c := range wrongCodes() {
		for _, body := range []string{"", "abc", strings.Repeat("a", 65)} {
			if got, ok := impl.ShardsOf(c, body); got != nil || ok {
				t.Errorf("ShardsOf(%v, %q) = %q, %v", c, body, got, ok)
			}
			for _, pos := range []int64{0, -1, 9} {
				got, code := impl.ShardAt(c, body, pos)
				wantText(t, "ShardAt of no code", got, code, "", impl.ErrForm)
			}
		}
	}
}

func wrongPositions(c impl.Code) []int64 {
	n := c.K + c.M
	return []int64{-1, -n, n, n + 1, 7, 1 << 32, 1<<32 + 1, math.MinInt64, math.MaxInt64}
}

func TestShardAtRefusesPositions(t *testing.T) {
	for _, c := range allCodes() {
		for _, pos := range wrongPositions(c) {
			for _, body := range []string{"", "abc", strings.Repeat("a", 64)} {
				got, code := impl.ShardAt(c, body, pos)
				wantText(t, "ShardAt", got, code, "", impl.ErrRange)
			}
		}
	}
}

// wantNoHave checks that no function takes the shards, also where it would
// find other errors.
func wantNoHave(t *testing.T, c impl.Code, size int64, have []impl.Shard) {
	t.Helper()
	if impl.HaveOk(c, size, have) {
		t.Errorf("HaveOk(%v, %d, %v)", c, size, have)
	}
	body, code := impl.BodyOf(c, size, have)
	wantText(t, "BodyOf", body, code, "", impl.ErrForm)
	for _, pos := range []int64{0, -1, 9} {
		shard, code := impl.Rebuild(c, size, have, pos)
		wantText(t, "Rebuild", shard, code, "", impl.ErrForm)
	}
	odd, code := impl.OddShards(c, size, have)
	if len(odd) > 0 || code != impl.ErrForm {
		t.Errorf("OddShards(%v, %d, %v) = %v, code %d", c, size, have, odd, code)
	}
}

func TestHaveOk(t *testing.T) {
	for _, c := range allCodes() {
		for _, n := range []int{0, 1, 5, 63, 64} {
			all := shardsOf(c, bodies(32, n)[0])
			for k := range c.K + c.M + 1 {
				for _, positions := range choices(c.K+c.M, k) {
					if have := picked(all, positions...); !impl.HaveOk(c, int64(n), have) {
						t.Errorf("HaveOk(%v, %d, %v) is false", c, n, have)
					}
				}
			}
		}
	}
	if !impl.HaveOk(helloCode, 11, []impl.Shard{}) || !impl.HaveOk(helloCode, 11, []impl.Shard{{Pos: 4, Bytes: "\xff\xff\xff\xff"}}) {
		t.Error("HaveOk: there may be none, and their bytes are free")
	}
}

func TestHaveOkRefuses(t *testing.T) {
	all := helloShards()
	for _, c := range wrongCodes() {
		wantNoHave(t, c, 11, picked(all, 0, 1, 2))
		wantNoHave(t, c, 0, nil)
	}
	for _, size := range wrongSizes(64) {
		wantNoHave(t, helloCode, size, nil)
		wantNoHave(t, helloCode, size, []impl.Shard{{Pos: 0}, {Pos: 1}, {Pos: 2}})
	}
	for _, positions := range [][]int64{{0, 0}, {0, 1, 1}, {1, 0}, {0, 2, 1}, {4, 3, 2}, {0, 1, 2, 3, 3}, {0, 1, 2, 4, 3}, {2, 2, 2}} {
		wantNoHave(t, helloCode, 11, picked(all, positions...))
	}
	for _, pos := range wrongPositions(helloCode) {
		wrong := impl.Shard{Pos: pos, Bytes: "hell"}
		wantNoHave(t, helloCode, 11, []impl.Shard{wrong})
		wantNoHave(t, helloCode, 11, append(picked(all, 0, 1, 2), wrong))
		wantNoHave(t, helloCode, 11, append([]impl.Shard{wrong}, picked(all, 0, 1, 2)...))
	}
	for _, bytes := range []string{"", "hel", "hellx", strings.Repeat("a", 64)} {
		for i := range all {
			have := picked(all, 0, 1, 2, 3, 4)
			have[i].Bytes = bytes
			wantNoHave(t, helloCode, 11, have)
		}
	}
	wantNoHave(t, helloCode, 0, picked(all, 0, 1, 2))
	wantNoHave(t, helloCode, 12+1, picked(all, 0, 1, 2))
	wantNoHave(t, helloCode, 9, picked(all, 0, 1, 2))
}

// P8: a body is recovered from any K of its shards, or from more.
func TestBodyIsRecovered(t *testing.T) {
	for _, c := range allCodes() {
		for n := range 65 {
			for _, body := range bodies(33, n) {
				all := shardsOf(c, body)
				for k := c.K; k <= c.K+c.M; k++ {
					for _, positions := range choices(c.K+c.M, k) {
						got, code := impl.BodyOf(c, int64(n), picked(all, positions...))
						wantText(t, "BodyOf", got, code, body, impl.OK)
					}
				}
			}
		}
	}
}

// P8: a rebuilt shard is the original one, whether it was there or not.
func TestRebuiltShardsAreTheOriginalOnes(t *testing.T) {
	for _, c := range allCodes() {
		for n := range 65 {
			body := bodies(34, n)[n%3]
			all := shardsOf(c, body)
			for _, positions := range choices(c.K+c.M, c.K) {
				for pos, want := range all {
					got, code := impl.Rebuild(c, int64(n), picked(all, positions...), int64(pos))
					wantText(t, "Rebuild", got, code, want, impl.OK)
				}
			}
		}
	}
	got, code := impl.Rebuild(helloCode, 11, picked(helloShards(), 2, 3, 4), 0)
	wantText(t, "Rebuild", got, code, "hell", impl.OK)
}

// Whatever the bytes of the first K shards are, they are those of the recovered
// data; further ones are not consulted.
func TestOnlyTheFirstShardsCount(t *testing.T) {
	r := source(35)
	for _, c := range allCodes() {
		for _, n := range []int{0, 1, 2, 7, 33, 64} {
			size := sizeOf(c, n)
			var data []string
			for range c.K {
				data = append(data, someBytes(r, size))
			}
			all := piecesOf(generator(c.K, c.M), data)
			for k := c.K; k <= c.K+c.M; k++ {
				for _, positions := range choices(c.K+c.M, k) {
					have := picked(all, positions...)
					for i := c.K; i < k; i++ {
						have[i].Bytes = someBytes(r, size)
					}
					wantRecovered(t, c, n, have, all)
				}
			}
		}
	}
}

// wantRecovered checks what is recovered of a body of n bytes against all the
// shards that the first K determine.
func wantRecovered(t *testing.T, c impl.Code, n int, have []impl.Shard, all []string) {
	t.Helper()
	body, code := impl.BodyOf(c, int64(n), have)
	wantText(t, "BodyOf", body, code, strings.Join(all[:c.K], "")[:n], impl.OK)
	for pos, want := range all {
		shard, code := impl.Rebuild(c, int64(n), have, int64(pos))
		wantText(t, "Rebuild", shard, code, want, impl.OK)
	}
	var want []int64
	for _, s := range have {
		if s.Bytes != all[s.Pos] {
			want = append(want, s.Pos)
		}
	}
	odd, code := impl.OddShards(c, int64(n), have)
	if !slices.Equal(odd, want) || code != impl.OK {
		t.Errorf("OddShards(%v, %d, %x) = %v, code %d; want %v", c, n, have, odd, code, want)
	}
}

func TestPaddingIsNotChecked(t *testing.T) {
	c := impl.Code{K: 2, M: 1}
	all := piecesOf(generator(2, 1), []string{"abc", "deX"})
	for _, positions := range [][]int64{{0, 1}, {0, 2}, {1, 2}, {0, 1, 2}} {
		wantRecovered(t, c, 5, picked(all, positions...), all)
	}
	body, code := impl.BodyOf(c, 5, picked(all, 0, 1))
	wantText(t, "BodyOf", body, code, "abcde", impl.OK)
	c = impl.Code{K: 4, M: 1}
	all = piecesOf(generator(4, 1), []string{"a", "W", "X", "Y"})
	body, code = impl.BodyOf(c, 1, picked(all, 1, 2, 3, 4))
	wantText(t, "BodyOf", body, code, "a", impl.OK)
}

func wantOdd(t *testing.T, have []impl.Shard, want ...int64) {
	t.Helper()
	odd, code := impl.OddShards(helloCode, 11, have)
	if !slices.Equal(odd, want) || code != impl.OK {
		t.Errorf("OddShards of %v: %v, code %d; want %v", have, odd, code, want)
	}
}

func TestOddShards(t *testing.T) {
	have := picked(helloShards(), 0, 1, 2, 3, 4)
	wantOdd(t, have)
	have[3].Bytes = "nope"
	wantOdd(t, have, 3)
	wantOdd(t, have[:4], 3)
	wantOdd(t, have[:3])
	have[4].Bytes = "nope"
	wantOdd(t, have, 3, 4)
	for i := range 3 {
		have := picked(helloShards(), 0, 1, 2, 3, 4)
		have[i].Bytes = "nope"
		wantOdd(t, have, 3, 4)
		wantOdd(t, have[:3])
	}
	have = picked(helloShards(), 1, 2, 3, 4)
	have[0].Bytes = "o wO"
	wantOdd(t, have, 4)
}

func TestTooFewShards(t *testing.T) {
	for _, c := range allCodes() {
		for _, n := range []int{0, 5, 64} {
			all := shardsOf(c, bodies(36, n)[0])
			for k := range c.K {
				for _, positions := range choices(c.K+c.M, k) {
					wantTooFew(t, c, int64(n), picked(all, positions...))
				}
			}
		}
	}
}

func wantTooFew(t *testing.T, c impl.Code, n int64, have []impl.Shard) {
	t.Helper()
	body, code := impl.BodyOf(c, n, have)
	wantText(t, "BodyOf", body, code, "", impl.ErrFew)
	odd, code := impl.OddShards(c, n, have)
	if len(odd) > 0 || code != impl.ErrFew {
		t.Errorf("OddShards of too few: %v, code %d", odd, code)
	}
	for pos := range c.K + c.M {
		shard, code := impl.Rebuild(c, n, have, pos)
		wantText(t, "Rebuild", shard, code, "", impl.ErrFew)
	}
	for _, pos := range wrongPositions(c) {
		shard, code := impl.Rebuild(c, n, have, pos)
		wantText(t, "Rebuild", shard, code, "", impl.ErrRange)
	}
}

func TestRebuildRefusesPositions(t *testing.T) {
	for _, c := range allCodes() {
		all := shardsOf(c, hello)
		for _, pos := range wrongPositions(c) {
			shard, code := impl.Rebuild(c, 11, picked(all, choices(c.K+c.M, c.K)[0]...), pos)
			wantText(t, "Rebuild", shard, code, "", impl.ErrRange)
		}
	}
}
