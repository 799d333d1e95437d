package serve_test

import (
	"bytes"
	"math"
	"math/rand/v2"
	"slices"
	"testing"

	"cupel/api"
	"cupel/bpe"
	"cupel/draw"
	"cupel/model"
	"cupel/serve"
	"cupel/tensor"
	"cupel/weights"
)

// This file tells the chapter's words once more, to hold the package against them: what comes of a request is worked out ahead of time, of it alone, and rows are numbers of pages alone.

const (
	one       = 1 << 16
	maxWeight = 1 << 24
)

// life is what comes of one request, and how far it is.
type life struct {
	ask  model.Ask
	need int
	// all is the prompt, and all tokens that will come; ends is how many places have gone through the model then, and with which error it is ended.
	all  []int
	ends int
	e    api.Errno

	state, places, preempted int
	// known is how many tokens of all have come so far.
	known int
	pages []int
}

// lifeOf goes through the model with a request alone.
func lifeOf(w weights.Weights, a model.Ask) *life {
	r := &life{ask: a, all: slices.Clone(a.Prompt), state: serve.Waiting, known: len(a.Prompt)}
	s, _ := draw.New(a.Seed, 0)
	for p := model.Empty(w.Config); ; {
		numbers, next, e := model.Forward(w, r.all[p.Len()], p)
		r.ends++
		if e != api.OK {
			r.e = e
			return r
		}
		p = next
		if p.Len() < len(r.all) {
			continue
		}
		token, e := s.Pick(numbers, a.K)
		if e != api.OK {
			r.e = e
			return r
		}
		r.all = append(r.all, token)
		if len(r.all) == len(a.Prompt)+a.Limit || slices.Contains(a.Stop, token) {
			return r
		}
	}
}

// plain is what a server is held against.
type plain struct {
	w        weights.Weights
	l        serve.Limits
	requests []*life
	// taken is how many pages were ever taken: each time a new one is.
	taken int
}

// need leaves with an error, if something does not hold.
func need(holds bool, e api.Errno) {
	if !holds {
		panic(e)
	}
}

// told is what f tells, or the error with which it left.
func told[T any](f func() T) (x T, e api.Errno) {
	defer func() {
		switch left := recover().(type) {
		case nil:
		case api.Errno:
			e = left
		default:
			panic(left)
		}
	}()
	return f(), api.OK
}

func (p *plain) submit(a model.Ask) int {
	if e := model.Check(p.w.Config, a); e != api.OK {
		panic(e)
	}
	pages := 0
	for pages*p.l.Size < len(a.Prompt)+a.Limit-1 {
		pages++
	}
	need(pages <= p.l.Pages, api.ErrLong)
	need(len(p.of(serve.Waiting)) < p.l.Queue, api.ErrFull)
	need(len(p.requests) < 200, api.ErrFull)
	r := lifeOf(p.w, a)
	r.need = pages
	p.requests = append(p.requests, r)
	return len(p.requests) - 1
}

func (p *plain) request(id int) *life {
	need(0 <= id && id < len(p.requests), api.ErrNone)
	return p.requests[id]
}

// of is the numbers of the requests in a state.
func (p *plain) of(state int) []int {
	var l []int
	for id, r := range p.requests {
		if r.state == state {
			l = append(l, id)
		}
	}
	return l
}

func (p *plain) cancel(id int) int {
	r := p.request(id)
	need(r.state != serve.Ended, api.ErrState)
	r.leave(serve.Ended)
	r.e = api.ErrCancel
	return 0
}

// leave has a request have no row any more.
func (r *life) leave(state int) { r.state, r.places, r.pages = state, 0, nil }

func (p *plain) acts() []serve.Act {
	var l []serve.Act
	waits, runs := p.of(serve.Waiting), p.of(serve.Running)
	if len(waits) > 0 && len(runs) < p.l.Batch {
		needs := p.requests[waits[0]].need
		for _, id := range runs {
			needs += p.requests[id].need
		}
		if needs <= p.l.Pages {
			l = append(l, serve.Act{Kind: 1, ID: waits[0]})
		}
	}
	for _, id := range runs {
		l = append(l, serve.Act{Kind: 2, ID: id})
	}
	for _, id := range runs {
		if p.requests[id].preempted < 3 {
			l = append(l, serve.Act{Kind: 3, ID: id})
		}
	}
	return l
}

func (p *plain) step(by int) serve.Act {
	l := p.acts()
	need(len(l) > 0, api.ErrNone)
	act := l[(by%len(l)+len(l))%len(l)]
	switch r := p.requests[act.ID]; act.Kind {
	case serve.Admit:
		p.admit(r)
	case serve.Advance:
		p.advance(r)
	case serve.Preempt:
		r.leave(serve.Waiting)
		r.preempted++
	}
	return act
}

func (p *plain) admit(r *life) {
	ahead := r.all[:r.known-1]
	for _, id := range p.of(serve.Running) {
		other := p.requests[id]
		for n := other.places; n > r.places; n-- {
			if n <= len(ahead) && slices.Equal(ahead[:n], other.all[:n]) {
				r.places = n
				r.pages = slices.Clone(other.pages[:(n-1)/p.l.Size+1])
			}
		}
	}
	r.state = serve.Running
}

func (p *plain) advance(r *life) {
	if r.places == r.ends-1 {
		r.leave(serve.Ended)
		return
	}
	isShared := func(page int) bool {
		holders := 0
		for _, other := range p.requests {
			if slices.Contains(other.pages, page) {
				holders++
			}
		}
		return holders > 1
	}
	if r.places%p.l.Size == 0 {
		p.taken++
		r.pages = append(r.pages, p.taken)
	} else if last := len(r.pages) - 1; isShared(r.pages[last]) {
		p.taken++
		r.pages[last] = p.taken
	}
	r.places++
	r.known = max(r.known, r.places+1)
}

func (p *plain) drive(picks []int) int {
	if len(picks) == 0 {
		picks = []int{0}
	}
	many := 0
	for len(p.acts()) > 0 {
		p.step(picks[many%len(picks)])
		many++
	}
	return many
}

func (p *plain) result(id int) []int {
	r := p.request(id)
	need(r.state == serve.Ended, api.ErrState)
	need(r.e == api.OK, r.e)
	return r.all[len(r.ask.Prompt):]
}

func (p *plain) free() int {
	held := map[int]bool{}
	for _, r := range p.requests {
		for _, page := range r.pages {
			held[page] = true
		}
	}
	return p.l.Pages - len(held)
}

// both is a server and what it is held against.
type both struct {
	*testing.T
	s *serve.Server
	p *plain
}

// made is a server that may be.
func made(t *testing.T, w weights.Weights, l serve.Limits) both {
	t.Helper()
	s, e := serve.New(w, l)
	if s == nil || e != api.OK {
		t.Fatalf("%v: %d", l, int(e))
	}
	return both{t, s, &plain{w: w, l: l}}
}

// answered holds what was answered against what is wanted.
func answered[T comparable](b both, call string, got T, e api.Errno, want T, wantE api.Errno) {
	b.Helper()
	if got != want || e != wantE {
		b.Fatalf("%s: %v %d, not %v %d", call, got, int(e), want, int(wantE))
	}
}

func (b both) submit(a model.Ask) (int, api.Errno) {
	b.Helper()
	want, wantE := told(func() int { return b.p.submit(a) })
	id, e := b.s.Submit(a)
	answered(b, "Submit", id, e, want, wantE)
	return id, e
}

func (b both) cancel(id int) api.Errno {
	b.Helper()
	want, wantE := told(func() int { return b.p.cancel(id) })
	e := b.s.Cancel(id)
	answered(b, "Cancel", 0, e, want, wantE)
	return e
}

func (b both) step(by int) (serve.Act, api.Errno) {
	b.Helper()
	want, wantE := told(func() serve.Act { return b.p.step(by) })
	act, e := b.s.Step(by)
	answered(b, "Step", act, e, want, wantE)
	return act, e
}

func (b both) drive(picks ...int) int {
	b.Helper()
	n, e := b.s.Drive(picks...)
	answered(b, "Drive", n, e, b.p.drive(picks), api.OK)
	return n
}

// do does one act, which may be done.
func (b both) do(kind, id int) {
	b.Helper()
	act := serve.Act{Kind: kind, ID: id}
	at := slices.Index(b.p.acts(), act)
	if at < 0 {
		b.Fatalf("%v is none of %v", act, b.p.acts())
	}
	b.step(at)
}

// advance does it so often.
func (b both) advance(id, times int) {
	b.Helper()
	for range times {
		b.do(serve.Advance, id)
	}
}

// stands holds all that a server tells against what is wanted.
func (b both) stands() {
	b.Helper()
	if l := b.s.Acts(); !slices.Equal(l, b.p.acts()) {
		b.Fatalf("Acts: %v, not %v", l, b.p.acts())
	}
	if n := b.s.Free(); n != b.p.free() {
		b.Fatalf("Free: %d, not %d", n, b.p.free())
	}
	for id := range b.p.requests {
		b.one(id)
	}
	for _, id := range noneOf(len(b.p.requests)) {
		b.one(id)
	}
}

// one holds all that is told of a request against what is wanted.
func (b both) one(id int) {
	b.Helper()
	r, wantE := told(func() life { return *b.p.request(id) })
	if n, e := b.s.State(id); n != r.state || e != wantE {
		b.Fatalf("State of %d: %d %d, not %d %d", id, n, int(e), r.state, int(wantE))
	}
	if n := b.s.Places(id); n != r.places {
		b.Fatalf("Places of %d: %d, not %d", id, n, r.places)
	}
	want, wantE := told(func() []int { return b.p.result(id) })
	if l, e := b.s.Result(id); !slices.Equal(l, want) || e != wantE {
		b.Fatalf("Result of %d: %v %d, not %v %d", id, l, int(e), want, int(wantE))
	}
}

// over holds what all are ended with against what the model tells of each alone.
func (b both) over() {
	b.Helper()
	b.stands()
	if len(b.s.Acts()) != 0 || b.s.Free() != b.p.l.Pages {
		b.Fatalf("%v may be done; %d pages are free", b.s.Acts(), b.s.Free())
	}
	for id, r := range b.p.requests {
		if n, e := b.s.State(id); n != serve.Ended || e != api.OK {
			b.Fatalf("State of %d: %d %d", id, n, int(e))
		}
		want, wantE := model.Complete(b.p.w, r.ask)
		if l, e := b.s.Result(id); e != api.ErrCancel && (!slices.Equal(l, want) || e != wantE) {
			b.Fatalf("Result of %d: %v %d, not %v %d", id, l, int(e), want, int(wantE))
		}
	}
}

// noneOf is numbers of which there is none, where there are so many.
func noneOf(many int) []int {
	return []int{-1, -2, -many - 1, -256, -1 << 31, -1 << 32, math.MinInt, math.MinInt + 1, many, many + 1, many + 1<<32, many + 256, math.MaxInt - 1, math.MaxInt}
}

// newChance is numbers of all kinds, the same in each run.
func newChance(seed uint64) *rand.Rand { return rand.New(rand.NewPCG(seed, 14)) }

// seedOf is a seed of the same byte again and again.
func seedOf(b byte) api.Digest { return api.Digest(bytes.Repeat([]byte{b}, 32)) }

// alphabetOf is an alphabet and pairs of so many tokens.
func alphabetOf(many int) ([]byte, []bpe.Pair) {
	n := min((many+1)/2, 32)
	alphabet := make([]byte, n)
	for i := range alphabet {
		alphabet[i] = byte(250 - 7*i)
	}
	var pairs []bpe.Pair
	for i := range many - n {
		pairs = append(pairs, bpe.Pair{A: i / n, B: i % n})
	}
	return alphabet, pairs
}

// lists is where all numbers of a model stand, in order, and how many there have to be of each.
func lists(w *weights.Weights) []list {
	c := w.Config
	matrix := func(m *tensor.Matrix, rows, cols int) list {
		m.Rows, m.Cols = rows, cols
		return list{&m.L, rows * cols}
	}
	l := []list{matrix(&w.Embed, c.Vocab, c.Dim)}
	for i := range w.Layers {
		y := &w.Layers[i]
		l = append(l, list{&y.Norm1, c.Dim})
		for _, m := range []*tensor.Matrix{&y.Query, &y.Key, &y.Value, &y.Output} {
			l = append(l, matrix(m, c.Dim, c.Dim))
		}
		l = append(l, list{&y.Norm2, c.Dim}, matrix(&y.Gate, c.Hidden, c.Dim), matrix(&y.Up, c.Hidden, c.Dim), matrix(&y.Down, c.Dim, c.Hidden))
	}
	return append(l, list{&w.Norm, c.Dim}, matrix(&w.Out, c.Vocab, c.Dim))
}

type list struct {
	l    *[]int
	many int
}

// modelOf is a model of these sizes, with numbers from -span to span that any other program can make, too.
func modelOf(c weights.Config, seed uint64, span int) weights.Weights {
	w := weights.Weights{Config: c, Layers: make([]weights.Layer, c.Layers)}
	w.Alphabet, w.Pairs = alphabetOf(c.Vocab)
	for _, y := range lists(&w) {
		for range y.many {
			seed = seed*6364136223846793005 + 1442695040888963407
			*y.l = append(*y.l, int(seed>>33)%(2*span+1)-span)
		}
	}
	return w
}

// spoiled is a model whose last token can't go through it.
func spoiled(w weights.Weights) weights.Weights {
	for i := range w.Config.Dim {
		w.Embed.L[(w.Config.Vocab-1)*w.Config.Dim+i] = maxWeight
	}
	return w
}

// counter is a model of so many tokens, an even number, behind each of which comes the next one, behind the last one the first.
func counter(vocab, ctx int) weights.Weights {
	w := modelOf(weights.Config{Vocab: vocab, Dim: vocab, Heads: 1, Layers: 1, Ctx: ctx, Hidden: 1}, 0, 0)
	for token := range vocab {
		w.Embed.L[token*vocab+token] = one
		w.Out.L[(token+1)%vocab*vocab+token] = one
		w.Norm[token] = one
	}
	return w
}

// Sizes that differ from each other, so that none can be mistaken for another one.
var (
	small  = weights.Config{Vocab: 5, Dim: 2, Heads: 1, Layers: 1, Ctx: 8, Hidden: 3}
	middle = weights.Config{Vocab: 6, Dim: 4, Heads: 2, Layers: 2, Ctx: 24, Hidden: 3}
	long   = weights.Config{Vocab: 3, Dim: 6, Heads: 1, Layers: 2, Ctx: 64, Hidden: 2}
)

// anyAsk is what may be asked of a model, which begins as others do.
func anyAsk(c *rand.Rand, of weights.Config) model.Ask {
	prompt := make([]int, 1+c.IntN(min(6, of.Ctx-1)))
	for i := range prompt {
		if c.IntN(3) == 0 {
			prompt[i] = c.IntN(of.Vocab)
		}
	}
	a := model.Ask{Prompt: prompt, Seed: seedOf(byte(c.IntN(256))), K: 1 + c.IntN(of.Vocab), Limit: 1 + c.IntN(min(9, of.Ctx-len(prompt)))}
	for c.IntN(3) == 0 {
		a.Stop = append(a.Stop, c.IntN(of.Vocab))
	}
	return a
}
