package impl

import "slices"

// MaxSide is the greatest number of rows and of columns of a matrix.
const MaxSide = 8

// Matrix is a matrix of field elements, given row by row.
type Matrix struct {
	High, Wide int64
	Cells      []int64
}

// element is a field element, as a number or as a byte of a piece.
type element interface{ int64 | byte }

// grid is a matrix of any size, row by row. A column of pieces is a grid of
// bytes with one piece in each row.
type grid[T element] struct {
	high, wide int
	cells      []T
}

func newGrid[T element](high, wide int) grid[T] {
	return grid[T]{high: high, wide: wide, cells: make([]T, high*wide)}
}

// row returns row i itself, not a copy. Its capacity ends with the row, so
// that appending to it cannot reach the next one.
func (g grid[T]) row(i int) []T {
	start, end := i*g.wide, (i+1)*g.wide
	return g.cells[start:end:end]
}

// gridOf copies the cells, so that the grid may be changed.
func gridOf(m Matrix) grid[int64] {
	g := newGrid[int64](int(m.High), int(m.Wide))
	copy(g.cells, m.Cells)
	return g
}

// matrixOf takes the cells of g over; g is not used afterwards.
func matrixOf(g grid[int64]) Matrix {
	return Matrix{High: int64(g.high), Wide: int64(g.wide), Cells: g.cells}
}

func unitGrid(n int) grid[int64] {
	g := newGrid[int64](n, n)
	for i := range n {
		g.row(i)[i] = 1
	}
	return g
}

// addTimes adds a multiple of the row from to the row to.
func addTimes[T element](to, from []T, factor int64) {
	p := powersOf(factor)
	for i, x := range from {
		to[i] ^= T(p.times(int64(x)))
	}
}

func multiply[T element](a grid[int64], b grid[T]) grid[T] {
	product := newGrid[T](a.high, b.wide)
	for i := range a.high {
		for j, factor := range a.row(i) {
			addTimes(product.row(i), b.row(j), factor)
		}
	}
	return product
}

// MatrixOk reports whether m is valid.
func MatrixOk(m Matrix) bool {
	if m.High < 1 || m.High > MaxSide || m.Wide < 1 || m.Wide > MaxSide {
		return false
	}
	if int64(len(m.Cells)) != m.High*m.Wide {
		return false
	}
	for _, a := range m.Cells {
		if !isElement(a) {
			return false
		}
	}
	return true
}

// SameMatrix reports whether both matrices are valid and equal.
func SameMatrix(a, b Matrix) bool {
	return MatrixOk(a) && MatrixOk(b) && a.High == b.High && a.Wide == b.Wide && slices.Equal(a.Cells, b.Cells)
}

// MatUnit returns the identity matrix with n rows.
func MatUnit(n int64) (Matrix, int64) {
	if n < 1 || n > MaxSide {
		return Matrix{}, ErrRange
	}
	return matrixOf(unitGrid(int(n))), OK
}

// MatMul returns the product of two matrices.
func MatMul(a, b Matrix) (Matrix, int64) {
	if !MatrixOk(a) || !MatrixOk(b) {
		return Matrix{}, ErrForm
	}
	if a.Wide != b.High {
		return Matrix{}, ErrRange
	}
	return matrixOf(multiply(gridOf(a), gridOf(b))), OK
}

// MatInv returns the inverse of a square matrix.
func MatInv(m Matrix) (Matrix, int64) {
	if !MatrixOk(m) {
		return Matrix{}, ErrForm
	}
	if m.High != m.Wide {
		return Matrix{}, ErrRange
	}
	// The row operations that turn m into the unit turn the unit into its inverse.
	both := beside(gridOf(m), unitGrid(int(m.High)))
	for at := range both.high {
		if !clearColumn(both, at) {
			return Matrix{}, ErrNone
		}
	}
	return matrixOf(columnsFrom(both, int(m.Wide))), OK
}

// beside returns the rows of a, each followed by the same row of b.
func beside(a, b grid[int64]) grid[int64] {
	both := newGrid[int64](a.high, a.wide+b.wide)
	for i := range both.high {
		row := both.row(i)
		copy(row, a.row(i))
		copy(row[a.wide:], b.row(i))
	}
	return both
}

// columnsFrom returns the columns of g from the given one on.
func columnsFrom(g grid[int64], start int) grid[int64] {
	part := newGrid[int64](g.high, g.wide-start)
	for i := range part.high {
		copy(part.row(i), g.row(i)[start:])
	}
	return part
}

// clearColumn makes column at that of the unit matrix by row operations, using
// a row from at on. It reports false if all these rows have 0 in the column.
func clearColumn(g grid[int64], at int) bool {
	pivot := at
	for pivot < g.high && g.row(pivot)[at] == 0 {
		pivot++
	}
	if pivot == g.high {
		return false
	}
	swapRows(g.row(pivot), g.row(at))
	row := g.row(at)
	scaleRow(row, inverseOf(row[at]))
	for i := range g.high {
		if i != at {
			addTimes(g.row(i), row, g.row(i)[at])
		}
	}
	return true
}

func swapRows(a, b []int64) {
	for i := range a {
		a[i], b[i] = b[i], a[i]
	}
}

func scaleRow(row []int64, factor int64) {
	p := powersOf(factor)
	for i, x := range row {
		row[i] = p.times(x)
	}
}

// MatRows returns the matrix of the given rows of m.
func MatRows(m Matrix, rows []int64) (Matrix, int64) {
	if !MatrixOk(m) {
		return Matrix{}, ErrForm
	}
	if len(rows) == 0 || len(rows) > MaxSide {
		return Matrix{}, ErrMany
	}
	from, to := gridOf(m), newGrid[int64](len(rows), int(m.Wide))
	for i, at := range rows {
		if at < 0 || at >= m.High {
			return Matrix{}, ErrRange
		}
		copy(to.row(i), from.row(int(at)))
	}
	return matrixOf(to), OK
}

// MatPieces returns the product of m and a column of pieces of equal length.
func MatPieces(m Matrix, pieces []string) ([]string, int64) {
	if !MatrixOk(m) {
		return nil, ErrForm
	}
	if int64(len(pieces)) != m.Wide {
		return nil, ErrMany
	}
	size := len(pieces[0])
	for _, piece := range pieces {
		if len(piece) != size {
			return nil, ErrRange
		}
	}
	column := newGrid[byte](len(pieces), size)
	for i, piece := range pieces {
		copy(column.row(i), piece)
	}
	return textsOf(multiply(gridOf(m), column)), OK
}

// textsOf returns the rows of g as strings.
func textsOf(g grid[byte]) []string {
	texts := make([]string, g.high)
	for i := range texts {
		texts[i] = string(g.row(i))
	}
	return texts
}

// CodeMatrix returns the generator matrix of the code with k data and m parity
// shards.
func CodeMatrix(k, m int64) (Matrix, int64) {
	// Each of them is bounded before they are added: the sum might overflow.
	if k < 1 || k > MaxSide || m < 0 || m > MaxSide-k {
		return Matrix{}, ErrRange
	}
	g := newGrid[int64](int(k+m), int(k))
	copy(g.cells, unitGrid(int(k)).cells)
	for i := k; i < k+m; i++ {
		row := g.row(int(i))
		for j := range k {
			// Not a division by zero: i is at least k, and j is less.
			row[j] = productOf(i, inverseOf(i^j))
		}
	}
	return matrixOf(g), OK
}
