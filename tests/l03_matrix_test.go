package tests

import (
	"math"
	"slices"
	"strings"
	"testing"

	"loop.example/g00849/impl"
)

func TestMatrixOk(t *testing.T) {
	if impl.MaxSide != 8 {
		t.Errorf("MaxSide = %d", impl.MaxSide)
	}
	for high := int64(1); high <= 8; high++ {
		for wide := int64(1); wide <= 8; wide++ {
			m := someMatrix(source(1), high, wide)
			if !impl.MatrixOk(m) || !impl.SameMatrix(m, m) {
				t.Errorf("%v is not valid", m)
			}
		}
	}
	for _, m := range []impl.Matrix{matrix(1, 1, 0), matrix(1, 1, 255), matrix(1, 2, 0, 255)} {
		if !impl.MatrixOk(m) {
			t.Errorf("%v is not valid", m)
		}
	}
	for _, m := range wrongMatrices() {
		if impl.MatrixOk(m) {
			t.Errorf("%v is valid", m)
		}
	}
}

func TestSameMatrix(t *testing.T) {
	a := matrix(2, 3, 1, 2, 3, 4, 5, 6)
	if !impl.SameMatrix(a, matrix(2, 3, 1, 2, 3, 4, 5, 6)) {
		t.Error("equal matrices are not the same")
	}
	for _, b := range []impl.Matrix{
		matrix(3, 2, 1, 2, 3, 4, 5, 6), matrix(1, 6, 1, 2, 3, 4, 5, 6), matrix(2, 3, 1, 2, 3, 4, 5, 7), matrix(2, 3, 0, 2, 3, 4, 5, 6),
		matrix(1, 3, 1, 2, 3), matrix(2, 2, 1, 2, 3, 4), matrix(2, 4, 1, 2, 3, 4, 5, 6, 0, 0),
	} {
		if impl.SameMatrix(a, b) || impl.SameMatrix(b, a) {
			t.Errorf("%v and %v are the same", a, b)
		}
	}
	for _, m := range wrongMatrices() {
		if impl.SameMatrix(m, m) || impl.SameMatrix(m, a) || impl.SameMatrix(a, m) {
			t.Errorf("%v, not valid, is the same as something", m)
		}
	}
}

func TestMatUnit(t *testing.T) {
	for n := int64(1); n <= 8; n++ {
		got, code := impl.MatUnit(n)
		wantMatrix(t, "MatUnit", got, code, unit(n), impl.OK)
	}
	for _, n := range []int64{0, -1, 9, 10, 1 << 32, 1<<32 + 1, math.MinInt64, math.MaxInt64} {
		got, code := impl.MatUnit(n)
		wantMatrix(t, "MatUnit", got, code, impl.Matrix{}, impl.ErrRange)
	}
}

// productMatrix follows the definition cell by cell.
func productMatrix(a, b impl.Matrix) impl.Matrix {
	m := impl.Matrix{High: a.High, Wide: b.Wide}
	for i := range a.High {
		for j := range b.Wide {
			sum := int64(0)
			for k := range a.Wide {
				sum ^= productOf(a.Cells[i*a.Wide+k], b.Cells[k*b.Wide+j])
			}
			m.Cells = append(m.Cells, sum)
		}
	}
	return m
}

func TestMatMul(t *testing.T) {
	got, code := impl.MatMul(matrix(2, 2, 1, 2, 3, 4), matrix(2, 1, 1, 2))
	wantMatrix(t, "MatMul", got, code, matrix(2, 1, 5, 11), impl.OK)
	r := source(8)
	for high := int64(1); high <= 8; high++ {
		for wide := int64(1); wide <= 8; wide++ {
			for depth := int64(1); depth <= 8; depth++ {
				a, b := someMatrix(r, high, depth), someMatrix(r, depth, wide)
				got, code := impl.MatMul(a, b)
				wantMatrix(t, "MatMul", got, code, productMatrix(a, b), impl.OK)
			}
			a := someMatrix(r, high, wide)
			got, code := impl.MatMul(a, unit(wide))
			wantMatrix(t, "MatMul by the unit", got, code, a, impl.OK)
			got, code = impl.MatMul(unit(high), a)
			wantMatrix(t, "MatMul of the unit", got, code, a, impl.OK)
		}
	}
}

func TestMatMulRefuses(t *testing.T) {
	r := source(9)
	for wide := int64(1); wide <= 8; wide++ {
		for high := int64(1); high <= 8; high++ {
			if wide != high {
				got, code := impl.MatMul(someMatrix(r, 3, wide), someMatrix(r, high, 2))
				wantMatrix(t, "MatMul of sides that differ", got, code, impl.Matrix{}, impl.ErrRange)
			}
		}
	}
	for _, m := range wrongMatrices() {
		for _, other := range []impl.Matrix{unit(1), unit(2), unit(8), m} {
			got, code := impl.MatMul(m, other)
			wantMatrix(t, "MatMul", got, code, impl.Matrix{}, impl.ErrForm)
			got, code = impl.MatMul(other, m)
			wantMatrix(t, "MatMul", got, code, impl.Matrix{}, impl.ErrForm)
		}
	}
}

// wantInverse checks P6 for one matrix that has an inverse.
func wantInverse(t *testing.T, m impl.Matrix) {
	t.Helper()
	inverse, code := impl.MatInv(m)
	if code != impl.OK || inverse.High != m.High || inverse.Wide != m.Wide {
		t.Fatalf("MatInv(%v) = %v, code %d", m, inverse, code)
	}
	got, code := impl.MatMul(m, inverse)
	wantMatrix(t, "MatMul of a matrix and its inverse", got, code, unit(m.High), impl.OK)
	got, code = impl.MatMul(inverse, m)
	wantMatrix(t, "MatMul of the inverse and the matrix", got, code, unit(m.High), impl.OK)
	wantMatrix(t, "the product as it is defined", productMatrix(inverse, m), impl.OK, unit(m.High), impl.OK)
}

func wantSingular(t *testing.T, m impl.Matrix) {
	t.Helper()
	got, code := impl.MatInv(m)
	wantMatrix(t, "MatInv of a singular matrix", got, code, impl.Matrix{}, impl.ErrNone)
}

func TestMatInvExamples(t *testing.T) {
	got, code := impl.MatInv(matrix(2, 2, 1, 1, 0, 2))
	wantMatrix(t, "MatInv", got, code, matrix(2, 2, 1, 142, 0, 142), impl.OK)
	got, code = impl.MatInv(matrix(2, 2, 0, 1, 1, 0))
	wantMatrix(t, "MatInv", got, code, matrix(2, 2, 0, 1, 1, 0), impl.OK)
	wantSingular(t, matrix(2, 2, 1, 2, 1, 2))
}

// P6, with all matrices of one cell.
func TestInversesOfOneCell(t *testing.T) {
	wantSingular(t, matrix(1, 1, 0))
	for a := int64(1); a < 256; a++ {
		wantInverse(t, matrix(1, 1, a))
	}
}

// P6, with matrices whose determinant is easily had.
func TestInversesOfFourCells(t *testing.T) {
	some := []int64{0, 1, 2, 3, 142, 245, 255}
	for _, a := range some {
		for _, b := range some {
			for _, c := range some {
				for _, d := range some {
					m := matrix(2, 2, a, b, c, d)
					if productOf(a, d) == productOf(b, c) {
						wantSingular(t, m)
					} else {
						wantInverse(t, m)
					}
				}
			}
		}
	}
}

// randomInvertible returns a product of triangular matrices with nonzero
// diagonals, with its rows turned round.
func randomInvertible(t *testing.T, seed uint64, n int64) impl.Matrix {
	t.Helper()
	r := source(seed)
	low, high := someMatrix(r, n, n), someMatrix(r, n, n)
	for i := range n {
		for j := range n {
			if i < j {
				low.Cells[i*n+j] = 0
				high.Cells[j*n+i] = 0
			}
		}
		low.Cells[i*n+i] = 1 + r.Int64N(255)
		high.Cells[i*n+i] = 1 + r.Int64N(255)
	}
	product := productMatrix(low, high)
	turned := impl.Matrix{High: n, Wide: n}
	for _, i := range r.Perm(int(n)) {
		turned.Cells = append(turned.Cells, product.Cells[i*int(n):(i+1)*int(n)]...)
	}
	return turned
}

// P6, with matrices of all sizes.
func TestInversesOfAllSizes(t *testing.T) {
	for n := int64(1); n <= 8; n++ {
		wantInverse(t, unit(n))
		for seed := range uint64(60) {
			wantInverse(t, randomInvertible(t, seed, n))
		}
	}
}

// P6, with matrices that have a single 1 in each row and column: most of them
// have a zero where the elimination looks first.
func TestInversesOfPermutations(t *testing.T) {
	r := source(10)
	for n := int64(1); n <= 8; n++ {
		for range 40 {
			m := impl.Matrix{High: n, Wide: n, Cells: make([]int64, n*n)}
			for i, j := range r.Perm(int(n)) {
				m.Cells[i*int(n)+j] = 1
			}
			wantInverse(t, m)
		}
	}
}

// A row that is a combination of the others makes a matrix singular, wherever it is.
func TestSingularMatrices(t *testing.T) {
	r := source(11)
	for n := int64(1); n <= 8; n++ {
		wantSingular(t, impl.Matrix{High: n, Wide: n, Cells: make([]int64, n*n)})
		for at := range n {
			m := randomInvertible(t, 77, n)
			row := m.Cells[at*n : (at+1)*n]
			clear(row)
			wantSingular(t, m)
			for i := range n {
				factor := r.Int64N(256)
				for j := range n {
					if i != at {
						row[j] ^= productOf(factor, m.Cells[i*n+j])
					}
				}
			}
			wantSingular(t, m)
			m = randomInvertible(t, 78, n)
			for i := range n {
				m.Cells[i*n+at] = 0
			}
			wantSingular(t, m)
		}
	}
}

func TestMatInvRefuses(t *testing.T) {
	for _, m := range wrongMatrices() {
		got, code := impl.MatInv(m)
		wantMatrix(t, "MatInv", got, code, impl.Matrix{}, impl.ErrForm)
	}
	r := source(12)
	for high := int64(1); high <= 8; high++ {
		for wide := int64(1); wide <= 8; wide++ {
			if high == wide {
				continue
			}
			for _, m := range []impl.Matrix{someMatrix(r, high, wide), {High: high, Wide: wide, Cells: make([]int64, high*wide)}} {
				got, code := impl.MatInv(m)
				wantMatrix(t, "MatInv of a matrix that is not square", got, code, impl.Matrix{}, impl.ErrRange)
			}
		}
	}
}

func TestMatRows(t *testing.T) {
	m := matrix(3, 2, 1, 2, 3, 4, 5, 6)
	got, code := impl.MatRows(m, []int64{2, 0, 2})
	wantMatrix(t, "MatRows", got, code, matrix(3, 2, 5, 6, 1, 2, 5, 6), impl.OK)
	got, code = impl.MatRows(m, []int64{1})
	wantMatrix(t, "MatRows", got, code, matrix(1, 2, 3, 4), impl.OK)
	got, code = impl.MatRows(m, []int64{0, 1, 2})
	wantMatrix(t, "MatRows", got, code, m, impl.OK)
	got, code = impl.MatRows(m, []int64{2, 2, 2, 2, 0, 0, 0, 1})
	wantMatrix(t, "MatRows", got, code, matrix(8, 2, 5, 6, 5, 6, 5, 6, 5, 6, 1, 2, 1, 2, 1, 2, 3, 4), impl.OK)
}

func TestMatRowsRefuses(t *testing.T) {
	m := matrix(3, 2, 1, 2, 3, 4, 5, 6)
	for _, v := range []struct {
		rows []int64
		code int64
	}{
		{nil, impl.ErrMany}, {[]int64{}, impl.ErrMany}, {make([]int64, 9), impl.ErrMany}, {make([]int64, 64), impl.ErrMany},
		{slices.Repeat([]int64{7}, 9), impl.ErrMany},
		{[]int64{3}, impl.ErrRange}, {[]int64{-1}, impl.ErrRange}, {[]int64{0, 1, 2, 3}, impl.ErrRange}, {[]int64{0, -1, 0}, impl.ErrRange},
		{[]int64{1 << 32}, impl.ErrRange}, {[]int64{math.MinInt64}, impl.ErrRange}, {[]int64{0, math.MaxInt64}, impl.ErrRange},
	} {
		got, code := impl.MatRows(m, v.rows)
		wantMatrix(t, "MatRows", got, code, impl.Matrix{}, v.code)
	}
	for _, m := range wrongMatrices() {
		for _, rows := range [][]int64{nil, {0}, {0, 99}, make([]int64, 9)} {
			got, code := impl.MatRows(m, rows)
			wantMatrix(t, "MatRows", got, code, impl.Matrix{}, impl.ErrForm)
		}
	}
}

// piecesOf follows the definition byte by byte.
func piecesOf(m impl.Matrix, pieces []string) []string {
	var list []string
	for i := range m.High {
		sum := make([]byte, len(pieces[0]))
		for j, piece := range pieces {
			for at := range sum {
				sum[at] ^= byte(productOf(m.Cells[i*m.Wide+int64(j)], int64(piece[at])))
			}
		}
		list = append(list, string(sum))
	}
	return list
}

func TestMatPieces(t *testing.T) {
	m := matrix(3, 2, 1, 0, 1, 1, 2, 1)
	got, code := impl.MatPieces(m, []string{"\x01\x80", "\x02\x01"})
	wantTexts(t, "MatPieces", got, code, []string{"\x01\x80", "\x03\x81", "\x00\x1c"}, impl.OK)
	got, code = impl.MatPieces(m, []string{"", ""})
	wantTexts(t, "MatPieces of empty pieces", got, code, []string{"", "", ""}, impl.OK)
	r := source(13)
	for high := int64(1); high <= 8; high++ {
		for wide := int64(1); wide <= 8; wide++ {
			for _, size := range []int{1, 2, 7, 64, 300} {
				m := someMatrix(r, high, wide)
				pieces := make([]string, wide)
				for i := range pieces {
					pieces[i] = someBytes(r, size)
				}
				got, code := impl.MatPieces(m, pieces)
				wantTexts(t, "MatPieces", got, code, piecesOf(m, pieces), impl.OK)
			}
		}
	}
}

// P6: what a matrix makes of pieces, its inverse turns back.
func TestMatPiecesTurnedBack(t *testing.T) {
	r := source(14)
	for n := int64(1); n <= 8; n++ {
		m := randomInvertible(t, 5, n)
		inverse, _ := impl.MatInv(m)
		pieces := make([]string, n)
		for i := range pieces {
			pieces[i] = someBytes(r, 40)
		}
		made, _ := impl.MatPieces(m, pieces)
		got, code := impl.MatPieces(inverse, made)
		wantTexts(t, "MatPieces by the inverse", got, code, pieces, impl.OK)
	}
}

func TestMatPiecesRefuses(t *testing.T) {
	m := matrix(3, 2, 1, 0, 1, 1, 2, 1)
	for _, v := range []struct {
		pieces []string
		code   int64
	}{
		{nil, impl.ErrMany}, {[]string{}, impl.ErrMany}, {[]string{"a"}, impl.ErrMany}, {[]string{"a", "b", "c"}, impl.ErrMany},
		{[]string{"a", "bc", "d"}, impl.ErrMany}, {strings.Split("ab", ""), impl.OK},
		{[]string{"a", "bc"}, impl.ErrRange}, {[]string{"ab", "c"}, impl.ErrRange}, {[]string{"", "c"}, impl.ErrRange}, {[]string{"a", ""}, impl.ErrRange},
	} {
		var want []string
		if v.code == impl.OK {
			want = piecesOf(m, v.pieces)
		}
		got, code := impl.MatPieces(m, v.pieces)
		wantTexts(t, "MatPieces", got, code, want, v.code)
	}
	got, code := impl.MatPieces(unit(3), []string{"ab", "cd", "e"})
	wantTexts(t, "MatPieces", got, code, nil, impl.ErrRange)
	for _, m := range wrongMatrices() {
		for _, pieces := range [][]string{nil, {"a"}, {"a", "bc"}, {"a", "b", "c"}} {
			got, code := impl.MatPieces(m, pieces)
			wantTexts(t, "MatPieces", got, code, nil, impl.ErrForm)
		}
	}
}

func TestCodeMatrixExamples(t *testing.T) {
	for _, v := range []struct {
		k, m int64
		want impl.Matrix
	}{
		{2, 2, matrix(4, 2, 1, 0, 0, 1, 1, 245, 1, 143)},
		{3, 2, matrix(5, 3, 1, 0, 0, 0, 1, 0, 0, 0, 1, 1, 143, 3, 1, 166, 245)},
		{1, 3, matrix(4, 1, 1, 1, 1, 1)},
		{1, 0, matrix(1, 1, 1)},
		{8, 0, unit(8)},
	} {
		got, code := impl.CodeMatrix(v.k, v.m)
		wantMatrix(t, "CodeMatrix", got, code, v.want, impl.OK)
	}
}

// generator returns CodeMatrix(k, m) by its definition.
func generator(k, m int64) impl.Matrix {
	g := impl.Matrix{High: k + m, Wide: k}
	for i := range k + m {
		for j := range k {
			cell := int64(0)
			switch {
			case i < k && i == j:
				cell = 1
			case i >= k: // the only c with c * (i + j) = i
				for productOf(cell, i^j) != i {
					cell++
				}
			}
			g.Cells = append(g.Cells, cell)
		}
	}
	return g
}

func TestCodeMatrixOfAllCodes(t *testing.T) {
	for k := int64(1); k <= 8; k++ {
		for m := int64(0); k+m <= 8; m++ {
			got, code := impl.CodeMatrix(k, m)
			wantMatrix(t, "CodeMatrix", got, code, generator(k, m), impl.OK)
			for i := k; i < k+m; i++ {
				if got.Cells[i*k] != 1 {
					t.Errorf("CodeMatrix(%d, %d): row %d begins with %d", k, m, i, got.Cells[i*k])
				}
			}
		}
	}
}

func TestCodeMatrixRefuses(t *testing.T) {
	far := []int64{9, 1 << 32, 1 << 62, math.MaxInt64, math.MaxInt64 - 1}
	list := [][2]int64{{0, 0}, {0, 1}, {-1, 2}, {1, -1}, {8, -1}, {9, -1}, {8, 1}, {1, 8}, {5, 4}, {4, 5}, {math.MinInt64, math.MinInt64}, {1, math.MinInt64}, {math.MinInt64, 8}, {math.MaxInt64, math.MinInt64}}
	for _, n := range far {
		list = append(list, [2]int64{n, 0}, [2]int64{n, 1}, [2]int64{1, n}, [2]int64{8, n}, [2]int64{n, n}, [2]int64{n, 8 - n}, [2]int64{8 - n, n})
	}
	for _, v := range list {
		got, code := impl.CodeMatrix(v[0], v[1])
		wantMatrix(t, "CodeMatrix", got, code, impl.Matrix{}, impl.ErrRange)
	}
}

// choices returns all strictly increasing lists of k numbers below n.
func choices(n, k int64) [][]int64 {
	var all [][]int64
	for bits := range int64(1) << n {
		var list []int64
		for i := range n {
			if bits>>i&1 == 1 {
				list = append(list, i)
			}
		}
		if int64(len(list)) == k {
			all = append(all, list)
		}
	}
	return all
}

// P7: any K rows of a generator matrix have an inverse, also in another order.
func TestRowsOfCodeMatrixHaveInverse(t *testing.T) {
	for k := int64(1); k <= 8; k++ {
		for m := int64(0); k+m <= 8; m++ {
			g, _ := impl.CodeMatrix(k, m)
			for _, rows := range choices(k+m, k) {
				part, code := impl.MatRows(g, rows)
				if code != impl.OK {
					t.Fatalf("MatRows of rows %v of CodeMatrix(%d, %d): code %d", rows, k, m, code)
				}
				wantInverse(t, part)
				slices.Reverse(rows)
				part, _ = impl.MatRows(g, rows)
				wantInverse(t, part)
			}
		}
	}
}
