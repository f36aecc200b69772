// Package cells has the values of a machine: numbers, and cells, with the places where cells lie.
package cells

// Value is a number or a cell. Two values are one and the same just if they are ==: a cell is told by where it lies, whatever is in it.
type Value struct {
	cell   int // where the cell lies, counted from 1 on; 0, if the value is a number
	number int64
}

// Number is the value that is a number.
func Number(n int64) Value { return Value{number: n} }

// Number gives the number that a value is; 0 and false, if it is a cell.
func (v Value) Number() (int64, bool) { return v.number, v.cell == 0 }
