// Package cells has the values of a machine: numbers, and cells, with the places where cells lie and the collector that frees them.
package cells

// Value is a number or a cell. Two values are one and the same just if they are ==: a cell is told by where it lies, whatever is in it.
type Value struct {
	cell   int // where the cell lies, counted from 1 on; 0, if the value is a number
	number int64
}

// Number is the value that is a number.
func Number(n int64) Value { return Value{number: n} }

// Number gives the number that a value is; 0 and false, if it is a cell.
func (v Value) Number() (int64, bool) { return v.number, !v.isCell() }

func at(place int) Value { return Value{cell: place + 1} }

func (v Value) isCell() bool { return v.cell > 0 }

// place is where a cell lies, counted from 0 on.
func (v Value) place() int { return v.cell - 1 }
