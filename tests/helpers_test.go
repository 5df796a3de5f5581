package tests

import (
	"math"
	"math/rand/v2"
	"reflect"
	"slices"
	"testing"

	"loop.example/g00849/impl"
)

// source returns the same numbers in every run.
func source(seed uint64) *rand.Rand {
	return rand.New(rand.NewPCG(seed, 849))
}

func someBytes(r *rand.Rand, n int) string {
	b := make([]byte, n)
	for i := range b {
		b[i] = byte(r.Uint32())
	}
	return string(b)
}

// notElements are the numbers next to the field's range and those far from it.
func notElements() []int64 {
	return []int64{-1, 256, 257, 511, 512, -255, -256, 1 << 32, 1<<32 + 1, 1 << 40, 1 << 62, math.MinInt64, math.MaxInt64}
}

func matrix(high, wide int64, cells ...int64) impl.Matrix {
	return impl.Matrix{High: high, Wide: wide, Cells: cells}
}

func someMatrix(r *rand.Rand, high, wide int64) impl.Matrix {
	cells := make([]int64, high*wide)
	for i := range cells {
		cells[i] = r.Int64N(256)
	}
	return impl.Matrix{High: high, Wide: wide, Cells: cells}
}

// unit is written out, so that MatUnit can be held against it.
func unit(n int64) impl.Matrix {
	m := impl.Matrix{High: n, Wide: n, Cells: make([]int64, n*n)}
	for i := range n {
		m.Cells[i*n+i] = 1
	}
	return m
}

// wrongMatrices are not valid, each for a reason of its own.
func wrongMatrices() []impl.Matrix {
	return []impl.Matrix{
		{},
		matrix(0, 1), matrix(1, 0), matrix(0, 0, 1),
		matrix(-1, 1), matrix(1, -1, 1), matrix(-1, -1, 1), matrix(-2, -2, 1, 0, 0, 1),
		{High: 9, Wide: 1, Cells: make([]int64, 9)}, {High: 1, Wide: 9, Cells: make([]int64, 9)}, {High: 9, Wide: 9, Cells: make([]int64, 81)},
		matrix(1, 1), matrix(1, 1, 1, 1), matrix(2, 2, 1, 2, 3), matrix(2, 2, 1, 2, 3, 4, 5), matrix(2, 3, 1, 2, 3, 4),
		matrix(1, 1, 256), matrix(1, 1, -1), matrix(2, 2, 1, 0, 0, 256), matrix(2, 2, -1, 0, 0, 1), matrix(1, 2, 0, 1<<32), matrix(1, 2, 0, 1<<32+1),
		matrix(1<<32, 1<<32), matrix(1<<62, 4), matrix(math.MinInt64, 2), matrix(math.MaxInt64, math.MaxInt64, 1),
	}
}

func mul(t *testing.T, a, b int64) int64 {
	t.Helper()
	c, code := impl.GfMul(a, b)
	if code != impl.OK {
		t.Fatalf("GfMul(%d, %d): code %d", a, b, code)
	}
	return c
}

// wantMatrix checks a result and its code; a result beside an error is zero.
func wantMatrix(t *testing.T, name string, got impl.Matrix, code int64, want impl.Matrix, wantCode int64) {
	t.Helper()
	same := got.High == want.High && got.Wide == want.Wide && slices.Equal(got.Cells, want.Cells)
	if !same || code != wantCode {
		t.Errorf("%s: %v, code %d; want %v, code %d", name, got, code, want, wantCode)
	}
}

func wantNumber(t *testing.T, name string, got, code, want, wantCode int64) {
	t.Helper()
	if got != want || code != wantCode {
		t.Errorf("%s: %d, code %d; want %d, code %d", name, got, code, want, wantCode)
	}
}

func wantText(t *testing.T, name string, got string, code int64, want string, wantCode int64) {
	t.Helper()
	if got != want || code != wantCode {
		t.Errorf("%s: %x, code %d; want %x, code %d", name, got, code, want, wantCode)
	}
}

func wantTexts(t *testing.T, name string, got []string, code int64, want []string, wantCode int64) {
	t.Helper()
	if !slices.Equal(got, want) || code != wantCode {
		t.Errorf("%s: %x, code %d; want %x, code %d", name, got, code, want, wantCode)
	}
}

// spare returns list with unused capacity that holds marks.
func spare[T any](list []T, mark T) []T {
	full := slices.Clone(list)
	for range 5 {
		full = append(full, mark)
	}
	return full[:len(list):len(full)]
}

// whole returns a copy of list and of its unused capacity.
func whole[T any](list []T) []T {
	return slices.Clone(list[:cap(list)])
}

func wantSame(t *testing.T, name string, got, want any) {
	t.Helper()
	if !reflect.DeepEqual(got, want) {
		t.Errorf("%s: %v; want %v", name, got, want)
	}
}
