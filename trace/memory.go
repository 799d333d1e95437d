package trace

import (
	"slices"

	"cupel/codec"
	"cupel/merkle"
)

// memory is cells, and their leaves, which turn with them.
type memory struct {
	cells  [][]int
	leaves *merkle.Tree
}

// remember is a memory of these cells themselves, not of copies.
func remember(cells [][]int) memory { return memory{cells, merkle.New(leavesOf(cells)...)} }

// leavesOf is the leaf of each cell.
func leavesOf(cells [][]int) [][]byte {
	leaves := make([][]byte, len(cells))
	for place, l := range cells {
		leaves[place] = codec.Numbers(l...)
	}
	return leaves
}

// cell is a cell that there is, with its proof.
func (m memory) cell(place int) Cell {
	proof, _ := m.leaves.Prove(place)
	return Cell{place, m.cells[place], proof}
}

// set lets a cell be other numbers, as many, and tells what is written so.
func (m memory) set(place int, l []int) write {
	x := writeOf(place, m.cells[place], l)
	m.cells[place] = l
	m.leaves.Set(place, codec.Numbers(l...))
	return x
}

// write is the numbers of a cell that a step turned, from the first one of them on. Most steps turn one of many.
type write struct {
	cell    int
	from    int
	numbers []int
}

// writeOf is what turns a cell's numbers into others, as many.
func writeOf(cell int, before, behind []int) write {
	from, to := 0, len(behind)
	for from < to && before[from] == behind[from] {
		from++
	}
	for from < to && before[to-1] == behind[to-1] {
		to--
	}
	return write{cell, from, slices.Clone(behind[from:to])}
}

// redo writes it into cells that are as they were ahead of the step.
func (x write) redo(cells [][]int) { copy(cells[x.cell][x.from:], x.numbers) }
