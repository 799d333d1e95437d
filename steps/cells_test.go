package steps_test

import (
	"math"
	"slices"
	"testing"

	"cupel/api"
	"cupel/steps"
	"cupel/weights"
)

// kindsTold is a step of each kind of the plan right, with the cells that it touches. Its keys and values stand from 12 on, 14 cells a layer.
func kindsTold() []struct {
	s      steps.Step
	reads  []int
	writes int
	part   weights.Part
} {
	return []struct {
		s      steps.Step
		reads  []int
		writes int
		part   weights.Part
	}{
		{steps.Step{Kind: steps.Load, At: 2}, []int{steps.Tokens}, steps.X, weights.Part{Kind: weights.Embed, Row: 6}},
		{steps.Step{Kind: steps.NormA, At: 6, Layer: 2}, []int{steps.X}, steps.H, weights.Part{Kind: weights.Norm1, Layer: 2}},
		{steps.Step{Kind: steps.QueryRow, At: 0, Layer: 1, Row: 3}, []int{steps.H, steps.Q}, steps.Q, weights.Part{Kind: weights.Query, Layer: 1, Row: 3}},
		{steps.Step{Kind: steps.KeyRow, At: 4, Layer: 2, Row: 1}, []int{steps.H, steps.K}, steps.K, weights.Part{Kind: weights.Key, Layer: 2, Row: 1}},
		{steps.Step{Kind: steps.ValueRow, At: 6, Layer: 0, Row: 2}, []int{steps.H, steps.V}, steps.V, weights.Part{Kind: weights.Value, Row: 2}},
		{steps.Step{Kind: steps.Turn, At: 1, Layer: 2}, []int{steps.Q}, steps.Q, weights.Part{}},
		{steps.Step{Kind: steps.PutKey, At: 0, Layer: 0}, []int{steps.K}, 12, weights.Part{}},
		{steps.Step{Kind: steps.PutKey, At: 5, Layer: 1}, []int{steps.K}, 36, weights.Part{}},
		{steps.Step{Kind: steps.PutValue, At: 0, Layer: 2}, []int{steps.V}, 41, weights.Part{}},
		{steps.Step{Kind: steps.PutValue, At: 6, Layer: 2}, []int{steps.V}, 53, weights.Part{}},
		{steps.Step{Kind: steps.Near, At: 0, Layer: 0, Head: 1}, []int{steps.Q, 12, steps.S}, steps.S, weights.Part{}},
		{steps.Step{Kind: steps.Near, At: 6, Layer: 1, Head: 0, Row: 6}, []int{steps.Q, 38, steps.S}, steps.S, weights.Part{}},
		{steps.Step{Kind: steps.Near, At: 6, Layer: 2, Head: 1, Row: 3}, []int{steps.Q, 46, steps.S}, steps.S, weights.Part{}},
		{steps.Step{Kind: steps.Share, At: 3, Layer: 2, Head: 1}, []int{steps.S}, steps.S, weights.Part{}},
		{steps.Step{Kind: steps.Mix, At: 0, Layer: 0, Head: 1}, []int{steps.S, steps.A, 13}, steps.A, weights.Part{}},
		{steps.Step{Kind: steps.Mix, At: 3, Layer: 1, Head: 0}, []int{steps.S, steps.A, 27, 29, 31, 33}, steps.A, weights.Part{}},
		{steps.Step{Kind: steps.Mix, At: 6, Layer: 2, Head: 1}, []int{steps.S, steps.A, 41, 43, 45, 47, 49, 51, 53}, steps.A, weights.Part{}},
		{steps.Step{Kind: steps.OutputRow, At: 2, Layer: 1, Row: 3}, []int{steps.A, steps.O}, steps.O, weights.Part{Kind: weights.Output, Layer: 1, Row: 3}},
		{steps.Step{Kind: steps.AddA, At: 2, Layer: 1}, []int{steps.X, steps.O}, steps.X, weights.Part{}},
		{steps.Step{Kind: steps.NormB, At: 0, Layer: 1}, []int{steps.X}, steps.H, weights.Part{Kind: weights.Norm2, Layer: 1}},
		{steps.Step{Kind: steps.GateRow, At: 6, Layer: 0, Row: 4}, []int{steps.H, steps.G}, steps.G, weights.Part{Kind: weights.Gate, Row: 4}},
		{steps.Step{Kind: steps.Open, At: 6, Layer: 0}, []int{steps.G}, steps.G, weights.Part{}},
		{steps.Step{Kind: steps.UpRow, At: 1, Layer: 2, Row: 0}, []int{steps.H, steps.U}, steps.U, weights.Part{Kind: weights.Up, Layer: 2}},
		{steps.Step{Kind: steps.Times, At: 1, Layer: 2}, []int{steps.G, steps.U}, steps.G, weights.Part{}},
		{steps.Step{Kind: steps.DownRow, At: 1, Layer: 2, Row: 2}, []int{steps.G, steps.O}, steps.O, weights.Part{Kind: weights.Down, Layer: 2, Row: 2}},
		{steps.Step{Kind: steps.AddB, At: 6, Layer: 2}, []int{steps.X, steps.O}, steps.X, weights.Part{}},
		{steps.Step{Kind: steps.NormC, At: 4}, []int{steps.X}, steps.H, weights.Part{Kind: weights.Norm}},
		{steps.Step{Kind: steps.OutRow, At: 0, Row: 6}, []int{steps.H, steps.L}, steps.L, weights.Part{Kind: weights.Out, Row: 6}},
		{steps.Step{Kind: steps.Pick, At: 2}, []int{steps.L, steps.Tokens}, steps.Tokens, weights.Part{}},
		{steps.Step{Kind: steps.Pick, At: 6}, []int{steps.L, steps.Tokens}, steps.Tokens, weights.Part{}},
	}
}

func TestTouchedTold(t *testing.T) { // P12.2
	p := right()
	tokens := [][]int{{0, 1, 5, 6, -1, -1, -1, -1, -1}}
	kinds := map[int]bool{}
	for _, x := range kindsTold() {
		if l := p.Reads(x.s); !slices.Equal(l, x.reads) || p.Writes(x.s) != x.writes {
			t.Errorf("%v: reads %v, writes %d, not %v, %d", x.s, l, p.Writes(x.s), x.reads, x.writes)
		}
		if part, has := p.Part(x.s, tokens); part != x.part || has != (x.part != weights.Part{}) {
			t.Errorf("%v: Part: %v %v, not %v", x.s, part, has, x.part)
		}
		kinds[x.s.Kind] = true
	}
	if len(kinds) != steps.Pick {
		t.Errorf("%d kinds", len(kinds))
	}
}

// TestTouchedOfAny has all steps. Each one that writes a cell of which it leaves numbers reads that, too.
func TestTouchedOfAny(t *testing.T) { // P12.2
	for _, p := range somePlans() {
		b := boardOf(p)
		tokens := [][]int{slices.Repeat([]int{p.Config.Vocab - 1}, b.sizes[0])}
		for _, s := range b.l {
			x := b.lineOf(s)
			if l := p.Reads(s); !slices.Equal(l, x.reads) || p.Writes(s) != x.writes {
				t.Fatalf("%v, %v: reads %v, writes %d, not %v, %d", p, s, l, p.Writes(s), x.reads, x.writes)
			}
			want, had := b.tellPart(s, tokens)
			if part, has := p.Part(s, tokens); part != want || has != had {
				t.Fatalf("%v, %v: Part: %v %v, not %v %v", p, s, part, has, want, had)
			}
		}
	}
}

// TestPartsAreParts has each row of weights be one of the model's, and each of these be one of some step.
func TestPartsAreParts(t *testing.T) { // P12.2
	for _, p := range somePlans() {
		places := map[int]bool{}
		tokens := make([]int, p.Size(steps.Tokens))
		for token := range p.Config.Vocab {
			tokens[1] = token
			for s := range p.Steps() {
				if s.At > 0 || s.Kind != steps.Load && token > 0 {
					continue
				}
				if x, has := p.Part(s, [][]int{tokens}); has {
					place, e := p.Config.Place(x)
					if e != api.OK {
						t.Errorf("%v, %v: %v: %d", p, s, x, int(e))
					}
					places[place] = true
				}
			}
		}
		if many, _ := p.Config.Many(); len(places) != many-1 {
			t.Errorf("%v: %d rows, not %d", p, len(places), many-1)
		}
	}
}

// neighbours is a step with one field turned, in all ways.
func neighbours(s steps.Step) []steps.Step {
	var l []steps.Step
	for _, field := range []func(s *steps.Step) *int{
		func(s *steps.Step) *int { return &s.Kind },
		func(s *steps.Step) *int { return &s.At },
		func(s *steps.Step) *int { return &s.Layer },
		func(s *steps.Step) *int { return &s.Head },
		func(s *steps.Step) *int { return &s.Row },
	} {
		n := *field(&s)
		for _, turned := range append(farInts(), n-1, n+1, n+2, 0, 1, 2, 3, 4, 5, 6, 7, 8, 12, 22, 23, 24) {
			if turned != n {
				x := s
				*field(&x) = turned
				l = append(l, x)
			}
		}
	}
	return l
}

// TestNoStep turns one field of each step: what comes is another step of the plan, or none.
func TestNoStep(t *testing.T) { // P12.2, P12.3, R1
	for _, p := range []steps.Plan{right(), example(), {Config: small, Prompt: 3, Limit: 2, K: 2}} {
		b := boardOf(p)
		for i, s := range b.l {
			if s.Row > 0 && i%3 > 0 {
				continue
			}
			for _, x := range neighbours(s) {
				if !b.is[x] {
					holdNone(t, p, x, emptyCells(b, s), make([]int, b.weightSize(s)))
					continue
				}
				if l := p.Reads(x); !slices.Equal(l, b.lineOf(x).reads) || p.Writes(x) != b.lineOf(x).writes {
					t.Fatalf("%v, %v: reads %v, writes %d", p, x, l, p.Writes(x))
				}
			}
		}
	}
}

// TestNoStepTold has steps that only just are none, and those that they are mistaken for.
func TestNoStepTold(t *testing.T) { // P12.2, P12.3, R1
	p := right()
	b := boardOf(p)
	for _, x := range []struct {
		what    string
		is, not steps.Step
	}{
		{"no kind", steps.Step{Kind: steps.Load}, steps.Step{}},
		{"a kind behind the last one", steps.Step{Kind: steps.Pick, At: 6}, steps.Step{Kind: steps.Pick + 1, At: 6}},
		{"a place behind the last one", steps.Step{Kind: steps.Load, At: 6}, steps.Step{Kind: steps.Load, At: 7}},
		{"a place ahead of the first one", steps.Step{Kind: steps.Load}, steps.Step{Kind: steps.Load, At: -1}},
		{"Near of the place, and of one more", steps.Step{Kind: steps.Near, At: 4, Row: 4}, steps.Step{Kind: steps.Near, At: 4, Row: 5}},
		{"Near at the first place", steps.Step{Kind: steps.Near, Row: 0}, steps.Step{Kind: steps.Near, Row: 1}},
		{"Near at the last place", steps.Step{Kind: steps.Near, At: 6, Row: 6}, steps.Step{Kind: steps.Near, At: 6, Row: 7}},
		{"Pick ahead of the prompt's last token", steps.Step{Kind: steps.Pick, At: 2}, steps.Step{Kind: steps.Pick, At: 1}},
		{"Pick at the first place", steps.Step{Kind: steps.Pick, At: 3}, steps.Step{Kind: steps.Pick}},
		{"Pick behind the last place", steps.Step{Kind: steps.Pick, At: 6}, steps.Step{Kind: steps.Pick, At: 7}},
		{"a row of Dim", steps.Step{Kind: steps.QueryRow, Row: 3}, steps.Step{Kind: steps.QueryRow, Row: 4}},
		{"a row of Dim, of Down", steps.Step{Kind: steps.DownRow, Row: 3}, steps.Step{Kind: steps.DownRow, Row: 4}},
		{"a row of Hidden", steps.Step{Kind: steps.GateRow, Row: 4}, steps.Step{Kind: steps.GateRow, Row: 5}},
		{"a row of Hidden, of Up", steps.Step{Kind: steps.UpRow, Row: 4}, steps.Step{Kind: steps.UpRow, Row: 5}},
		{"a row of Vocab", steps.Step{Kind: steps.OutRow, Row: 6}, steps.Step{Kind: steps.OutRow, Row: 7}},
		{"a layer behind the last one", steps.Step{Kind: steps.Turn, Layer: 2}, steps.Step{Kind: steps.Turn, Layer: 3}},
		{"a head behind the last one", steps.Step{Kind: steps.Mix, Head: 1}, steps.Step{Kind: steps.Mix, Head: 2}},
		{"Load of a layer", steps.Step{Kind: steps.Load}, steps.Step{Kind: steps.Load, Layer: 1}},
		{"Load of a row", steps.Step{Kind: steps.Load}, steps.Step{Kind: steps.Load, Row: 1}},
		{"NormC of a layer", steps.Step{Kind: steps.NormC}, steps.Step{Kind: steps.NormC, Layer: 1}},
		{"OutRow of a layer", steps.Step{Kind: steps.OutRow, Row: 2}, steps.Step{Kind: steps.OutRow, Layer: 1, Row: 2}},
		{"Pick of a layer", steps.Step{Kind: steps.Pick, At: 2}, steps.Step{Kind: steps.Pick, At: 2, Layer: 1}},
		{"Pick of a head", steps.Step{Kind: steps.Pick, At: 2}, steps.Step{Kind: steps.Pick, At: 2, Head: 1}},
		{"Pick of a row", steps.Step{Kind: steps.Pick, At: 2}, steps.Step{Kind: steps.Pick, At: 2, Row: 1}},
		{"PutValue of a head", steps.Step{Kind: steps.PutValue}, steps.Step{Kind: steps.PutValue, Head: 1}},
		{"OutputRow of a head", steps.Step{Kind: steps.OutputRow, Row: 1}, steps.Step{Kind: steps.OutputRow, Row: 1, Head: 1}},
		{"NormA of a row", steps.Step{Kind: steps.NormA, Layer: 1}, steps.Step{Kind: steps.NormA, Layer: 1, Row: 1}},
		{"Share of a row", steps.Step{Kind: steps.Share, At: 3}, steps.Step{Kind: steps.Share, At: 3, Row: 1}},
		{"Mix of a row", steps.Step{Kind: steps.Mix, At: 3}, steps.Step{Kind: steps.Mix, At: 3, Row: 1}},
		{"Times of a row", steps.Step{Kind: steps.Times, At: 3}, steps.Step{Kind: steps.Times, At: 3, Row: 1}},
	} {
		if l := p.Reads(x.is); len(l) == 0 || !b.is[x.is] {
			t.Errorf("%s: reads nothing", x.what)
		}
		holdNone(t, p, x.not, emptyCells(b, x.is), make([]int, b.weightSize(x.is)))
	}
}

// TestPartOfLoad has cells of all sizes, and tokens that are none.
func TestPartOfLoad(t *testing.T) { // P12.2, R1
	p := right()
	s := steps.Step{Kind: steps.Load, At: 3}
	right := []int{0, 1, 4, 0, 6, -1, -1, -1, -1}
	if x, has := p.Part(s, [][]int{right}); x != (weights.Part{Kind: weights.Embed, Row: 6}) || !has {
		t.Error(x, has)
	}
	refuse := func(what string, s steps.Step, reads [][]int) {
		t.Helper()
		if x, has := p.Part(s, reads); x != (weights.Part{}) || has {
			t.Errorf("%s: %v %v", what, x, has)
		}
		if l, e := p.Do(s, reads, make([]int, 4), api.Digest{}); len(l) != 0 || e != api.ErrForm {
			t.Errorf("%s: Do: %v %d", what, l, int(e))
		}
	}
	refuse("no cell", s, nil)
	refuse("no cells at all", s, [][]int{})
	refuse("a cell of nothing", s, [][]int{nil})
	refuse("a number too few", s, [][]int{right[:8]})
	refuse("a number too many", s, [][]int{append(slices.Clone(right), 0)})
	refuse("just up to the token", s, [][]int{right[:5]})
	refuse("ahead of the token", s, [][]int{right[:4]})
	refuse("two cells", s, [][]int{right, right})
	refuse("two cells, one of nothing", s, [][]int{right, nil})
	refuse("a token that did not come yet", steps.Step{Kind: steps.Load, At: 4}, [][]int{right})
	refuse("the last one, that did not come yet", steps.Step{Kind: steps.Load, At: 6}, [][]int{right})
	for _, n := range append(farInts(), 7, 8) {
		tokens := slices.Clone(right)
		tokens[4] = n
		refuse("no token", s, [][]int{tokens})
		// Of other places it makes no difference, nor does how far the stream is.
		tokens[4], tokens[3], tokens[5], tokens[0] = 5, n, n, n
		if x, has := p.Part(s, [][]int{tokens}); x != (weights.Part{Kind: weights.Embed, Row: 5}) || !has {
			t.Errorf("%d at other places: %v %v", n, x, has)
		}
	}
	for token := range 7 {
		tokens := slices.Repeat([]int{-1}, 9)
		tokens[4] = token
		if x, has := p.Part(s, [][]int{tokens}); x != (weights.Part{Kind: weights.Embed, Row: token}) || !has {
			t.Errorf("token %d: %v %v", token, x, has)
		}
	}
}

// TestPartOfOthers has steps whose row of weights does not hang on what they read.
func TestPartOfOthers(t *testing.T) { // P12.2, R1
	p := right()
	b := boardOf(p)
	for _, s := range b.l {
		if s.Kind == steps.Load {
			continue
		}
		want, had := b.tellPart(s, nil)
		for _, reads := range [][][]int{nil, {}, {nil}, {{1, 2}, nil, {math.MinInt}}, emptyCells(b, s)} {
			if x, has := p.Part(s, reads); x != want || has != had {
				t.Fatalf("%v, %v: %v %v, not %v %v", s, reads, x, has, want, had)
			}
		}
	}
}
