package steps

import (
	"slices"

	"cupel/api"
	"cupel/draw"
	"cupel/fixed"
	"cupel/model"
	"cupel/tensor"
	"cupel/weights"
)

// task is a step that is to be done, and what it is to be done with.
type task struct {
	Plan
	Step
	reads  [][]int
	weight []int
	seed   api.Digest
}

// deed is what the steps of a kind do, and the kind of weights of which they have a row: 0, if they have none.
type deed struct {
	do   func(task) ([]int, api.Errno)
	part int
}

// deedOf is the deed of a kind that there is.
func deedOf(kind int) deed {
	return [...]deed{
		Load:      {task.load, weights.Embed},
		NormA:     {task.norm, weights.Norm1},
		QueryRow:  {task.dot, weights.Query},
		KeyRow:    {task.dot, weights.Key},
		ValueRow:  {task.dot, weights.Value},
		Turn:      {task.turn, 0},
		PutKey:    {task.turn, 0},
		PutValue:  {task.put, 0},
		Near:      {task.near, 0},
		Share:     {task.share, 0},
		Mix:       {task.mix, 0},
		OutputRow: {task.dot, weights.Output},
		AddA:      {task.add, 0},
		NormB:     {task.norm, weights.Norm2},
		GateRow:   {task.dot, weights.Gate},
		Open:      {task.open, 0},
		UpRow:     {task.dot, weights.Up},
		Times:     {task.times, 0},
		DownRow:   {task.dot, weights.Down},
		AddB:      {task.add, 0},
		NormC:     {task.norm, weights.Norm},
		OutRow:    {task.dot, weights.Out},
		Pick:      {task.pick, 0},
	}[kind]
}

// Do is what the cell that a step writes is behind it.
func (p Plan) Do(s Step, reads [][]int, weight []int, seed api.Digest) ([]int, api.Errno) {
	if !p.has(s) {
		return nil, api.ErrRange
	}
	t := task{p, s, reads, weight, seed}
	if !t.fits() {
		return nil, api.ErrForm
	}
	return deedOf(s.Kind).do(t)
}

// fits tells whether a step can be done with what it is to be done with.
func (t task) fits() bool {
	if !t.areReads(t.Step, t.reads) || len(t.weight) != t.weightSize(t.Step) {
		return false
	}
	switch t.Kind {
	case Load:
		return t.isToken(tokenOf(t.Step, t.reads))
	case Pick:
		return t.count() >= 0
	}
	return true
}

func (t task) load() ([]int, api.Errno) { return slices.Clone(t.weight), api.OK }

func (t task) norm() ([]int, api.Errno) { return tensor.Norm(t.reads[0], t.weight) }

func (t task) dot() ([]int, api.Errno) {
	n, e := tensor.Dot(t.weight, t.reads[0])
	return turned(e, t.reads[1], t.Row, n)
}

// turn is a vector of which each head's part is turned by the place.
func (t task) turn() ([]int, api.Errno) {
	var all []int
	e := api.OK
heads:
	for part := range slices.Chunk(t.reads[0], t.headSize()) {
		var l []int
		if l, e = tensor.Rotate(part, t.At); e != api.OK {
			all = nil
			break heads
		}
		all = append(all, l...)
	}
	return all, e
}

func (t task) put() ([]int, api.Errno) { return slices.Clone(t.reads[0]), api.OK }

func (t task) near() ([]int, api.Errno) {
	n, e := model.Score(t.part(t.reads[0]), t.part(t.reads[1]))
	return turned(e, t.reads[2], t.Row, n)
}

func (t task) share() ([]int, api.Errno) {
	shares, e := tensor.Softmax(t.upToHere(t.reads[0]))
	return turned(e, t.reads[0], 0, shares...)
}

func (t task) mix() ([]int, api.Errno) {
	var values [][]int
	for _, v := range t.reads[2:] {
		values = append(values, t.part(v))
	}
	mixed, e := tensor.Mix(t.upToHere(t.reads[0]), values...)
	return turned(e, t.reads[1], t.Head*t.headSize(), mixed...)
}

func (t task) add() ([]int, api.Errno) { return tensor.Add(t.reads[0], t.reads[1]) }

func (t task) open() ([]int, api.Errno) {
	return t.each(func(i int) (int, api.Errno) { return fixed.Gate(t.reads[0][i]) })
}

func (t task) times() ([]int, api.Errno) {
	return t.each(func(i int) (int, api.Errno) { return fixed.Mul(t.reads[0][i], t.reads[1][i]) })
}

func (t task) pick() ([]int, api.Errno) {
	stream, e := draw.New(t.seed, t.count())
	if e != api.OK {
		return nil, e
	}
	token, e := stream.Pick(t.reads[0], t.K)
	tokens, e := turned(e, t.reads[1], tokensAt+t.At+1, token)
	return turned(e, tokens, countAt, stream.Count())
}

// count is how far the stream is of a step that picks.
func (t task) count() int { return t.reads[1][countAt] }

// headSize is how many numbers a head's part has.
func (t task) headSize() int { return t.Config.Dim / t.Config.Heads }

// part is the head's part of a vector, without room behind it: what stands there is another head's.
func (t task) part(v []int) []int {
	from, to := t.Head*t.headSize(), (t.Head+1)*t.headSize()
	return v[from:to:to]
}

// upToHere is the numbers of all places up to the step's, that one too.
func (t task) upToHere(v []int) []int { return v[: t.At+1 : t.At+1] }

// each is what do tells of each number's place in the first cell, or its first error.
func (t task) each(do func(i int) (int, api.Errno)) ([]int, api.Errno) {
	l := make([]int, len(t.reads[0]))
	e := api.OK
numbers:
	for i := range l {
		if l[i], e = do(i); e != api.OK {
			l = nil
			break numbers
		}
	}
	return l, e
}

// turned is a cell with other numbers from a place on, or nothing, if there was an error in making these.
func turned(e api.Errno, cell []int, from int, numbers ...int) ([]int, api.Errno) {
	if e != api.OK {
		return nil, e
	}
	l := slices.Clone(cell)
	copy(l[from:], numbers)
	return l, api.OK
}
