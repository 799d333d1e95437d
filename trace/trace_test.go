package trace_test

import (
	"crypto/sha256"
	"encoding/hex"
	"math"
	"slices"
	"testing"

	"cupel/api"
	"cupel/model"
	"cupel/steps"
	"cupel/trace"
	"cupel/weights"
)

// bytesOf is digests, one behind the other.
func bytesOf(l ...api.Digest) []byte {
	var b []byte
	for _, d := range l {
		b = append(b, d[:]...)
	}
	return b
}

// beginning is that of a digest, as digits.
func beginning(d api.Digest) string { return hex.EncodeToString(d[:8]) }

// statesOf is all states that a trace tells.
func statesOf(t *testing.T, x *trace.Trace) []api.Digest {
	t.Helper()
	var l []api.Digest
	for i := range x.Many() + 1 {
		d, e := x.State(i)
		if e != api.OK {
			t.Fatalf("State(%d): %d", i, int(e))
		}
		l = append(l, d)
	}
	return l
}

// witnessBytes is all that all witnesses of a trace tell.
func witnessBytes(t *testing.T, x *trace.Trace) []byte {
	t.Helper()
	var b []byte
	for i := range x.Many() {
		y, e := x.Witness(i)
		if e != api.OK {
			t.Fatalf("Witness(%d): %d", i, int(e))
		}
		for _, c := range y.Cells {
			b = append(b, plainNumbers([]int{c.Place})...)
			b = append(b, plainNumbers(c.L)...)
			b = append(b, bytesOf(c.Proof...)...)
		}
		b = append(b, plainNumbers(y.Weight)...)
		b = append(b, bytesOf(y.Proof...)...)
	}
	return b
}

// endsOf is the proofs of the first state, of the last one, and of the cell of the tokens in that.
func endsOf(t *testing.T, x *trace.Trace) []byte {
	t.Helper()
	first, e := x.Prove(0)
	last, wrong := x.Prove(x.Many())
	cell, none := x.Last()
	if e != api.OK || wrong != api.OK || none != api.OK {
		t.Fatal(int(e), int(wrong), int(none))
	}
	return bytesOf(slices.Concat(first, last, cell.Proof)...)
}

// TestTold has beginnings of digests that another program has worked out, the model's numbers too: of the first state and of the last one, the root, all states, all witnesses, and the proofs of the ends.
func TestTold(t *testing.T) { // P15.1, P15.2
	for _, x := range []struct {
		run
		many                                       int
		e                                          api.Errno
		count                                      int
		tokens                                     []int
		first, last, root, states, witnesses, ends string
	}{
		{runOf(least, 6, 3*one, 1, 0, 1, 1), 28, api.OK, 0, []int{0}, "d94622a593f00288", "493c9a78f047338b", "4422fe48550c1429", "25b8f1527cd82b93", "e4e6c3fa3a71ae61", "e02f10b4c98e147a"},
		{runOf(small, 1, 2*one, 2, 0, 1, 6), 272, api.OK, 0, []int{3, 2, 3, 2, 3, 4}, "d6efb9e46d658a89", "373d935894be2fd0", "8575452b7ceadbb3", "c6b377cd624e39c0", "5db77cee54d245c8", "1dd9366ac09ae65c"},
		{runOf(small, 1, 2*one, 2, 1, 5, 6), 272, api.OK, 6, []int{2, 3, 2, 3, 1, 1}, "d6efb9e46d658a89", "7ecaef5fe58c51d2", "010cf51750753e1a", "905baae154d427a8", "8e76b18d651a15f9", "cc7095d9b223d76b"},
		{runOf(small, 1, 2*one, 7, 1, 5, 1), 267, api.OK, 1, []int{3}, "7cca1431e78ccf51", "e7bea5db99126c2e", "326164ef9736ccde", "1ede5dba93fac02a", "ac388184eb7858ff", "9361d90bc279b6bb"},
		{runOf(small, 1, 2*one, 1, 3, 2, 7), 273, api.OK, 7, []int{2, 1, 2, 2, 2, 4, 2}, "0076ce8ef817b27c", "45fab9c6d0635a95", "bd87f1609fa5aa03", "066db41fc8f8c151", "5eebf08eb35a6056", "662a4cd95f54b8d5"},
		{runOf(middle, 2, 2*one, 2, 0, 1, 7), 1327, api.OK, 0, []int{0, 2, 4, 0, 0, 0, 0}, "d6b2464daa8039d7", "0be9c5b27eee7b58", "ce9577ad8e64b768", "44bc9417f39c77f9", "ea60424281a0c10b", "bf12b3e13b131481"},
		{runOf(middle, 2, 2*one, 2, 1, 7, 7), 1327, api.OK, 7, []int{4, 0, 1, 6, 5, 2, 0}, "d6b2464daa8039d7", "8b75c82585eeafbc", "3572c61a63f80617", "f32009ed34cc9ba1", "4e6fc1332301e45a", "237f6336c712a606"},
		{runOf(middle, 2, 2*one, 8, 1, 7, 1), 1321, api.OK, 1, []int{4}, "f701f5a68f65fe03", "3b82e3407e654106", "5562a3e9cf8f60d6", "6f1eee45c92c1f3a", "778ca15b2981c2f3", "e8e2740556a45a2d"},
		{runOf(middle, 2, 2*one, 1, 1, 3, 8), 1328, api.OK, 8, []int{1, 2, 4, 0, 2, 6, 3, 0}, "22c308f7f9cf927e", "9c2c9bb4070a42cc", "a326dc43fee6ad93", "ace7db1167bee67a", "1fa3d81b9670940f", "21db8e0a1765d2bc"},
		{runOf(wide, 3, one, 3, 0, 2, 7), 2959, api.OK, 7, []int{5, 0, 2, 2, 10, 3, 9}, "d8e54a0c0f159cef", "360bbb7ebab9b1a0", "dd010376d6351f8f", "19208010b3cd90ff", "8501cc3eba71a430", "ac0d1e5a0553412d"},
		{runOf(wide, 3, one, 3, 1, 12, 7), 2959, api.OK, 7, []int{0, 11, 3, 2, 5, 5, 10}, "d8e54a0c0f159cef", "3d23f73291784458", "0d58a780a159f1bd", "38c7f95fc6a8dd23", "49e812ba7ec65ec8", "87f69cf409f6eb88"},
		{runOf(thick, 8, one/2, 2, 1, 33, 3), 1989, api.OK, 3, []int{7, 27, 19}, "45f9f388c5ac816b", "c3489b81200c4544", "febfcc43f681c112", "72bedd0d01683da4", "6e995ff61fab3d90", "e5a21b4fec9ed30b"},
		{runOf(most, 5, one/4, 1, 2, 3, 1), 2439, api.OK, 1, []int{412}, "fa8ad93a42772d2a", "e1ef08602a981395", "d736eaed1b8f75eb", "7b6eb514bb076aad", "716f94ca6763eea8", "cba62b939c94502e"},
		{runOf(middle, 2, 256*one, 2, 1, 7, 7), 3, api.ErrOver, 0, nil, "d6b2464daa8039d7", "54ccd25cdf6f5fb8", "37c7a6cc240b419d", "20a03c8e832ee1a1", "93fb4b857c224f70", "115cf7f23ca02380"},
		{runOf(small, 13, 200*one, 2, 1, 5, 6), 11, api.ErrOver, 0, nil, "d6efb9e46d658a89", "62c23342b04a6192", "60af611f264a56cc", "b38b3e44e1775504", "5134f276d8a2de88", "a649f6db8cb1b6fc"},
		{runOf(wide, 12, 32*one, 3, 1, 12, 7), 53, api.ErrOver, 0, nil, "d8e54a0c0f159cef", "a96d533697e5fb5f", "34c66dcbcc73fc90", "227819890dac833c", "1ddbc6469b96749a", "d4099e549884b270"},
		{runOf(middle, 2, 3*one, 2, 1, 7, 7), 345, api.ErrOver, 1, []int{2}, "d6b2464daa8039d7", "61dba9f9a7d1854d", "ddd665074f6a8bda", "7bbe4a9b90da69b9", "a10440109235c8e4", "d27cfffc9720aed2"},
		{runOf(middle, 10, 3*one, 2, 1, 7, 7), 669, api.ErrOver, 3, []int{6, 3, 4}, "d6b2464daa8039d7", "4b94fbd2e4eb80b6", "d3839dafa04372da", "0b490fa626e8a7e5", "d8be239860b4d516", "9c400e72d241153e"},
		{runOf(small, 4, 8*one, 2, 1, 5, 6), 182, api.ErrOver, 3, []int{2, 2, 2}, "d6efb9e46d658a89", "bb60eb266c84027e", "451233a14e2ca061", "e4a161f156afcf2e", "03403202f351602a", "f92a5e0c4a5c4e0f"},
	} {
		y, e := trace.Far(x.w, x.a)
		if e != x.e || y.Many() != x.many || !slices.Equal(y.Tokens(), x.tokens) {
			t.Fatalf("%v: %d steps %d, %v, not %d %d, %v", x.w.Config, y.Many(), int(e), y.Tokens(), x.many, int(x.e), x.tokens)
		}
		states := statesOf(t, y)
		of := func(b []byte) string { return beginning(sha256.Sum256(b)) }
		got := []string{beginning(states[0]), beginning(states[x.many]), beginning(y.Root()), of(bytesOf(states...)), of(witnessBytes(t, y)), of(endsOf(t, y))}
		if want := []string{x.first, x.last, x.root, x.states, x.witnesses, x.ends}; !slices.Equal(got, want) {
			t.Errorf("%v: %v, not %v", x.w.Config, got, want)
		}
		rest := slices.Repeat([]int{-1}, x.a.Limit-len(x.tokens))
		want := slices.Concat([]int{x.count}, x.a.Prompt, x.tokens, rest)
		if last, e := y.Last(); last.Place != steps.Tokens || !slices.Equal(last.L, want) || e != api.OK {
			t.Errorf("%v: %v %d, not %v", x.w.Config, last, int(e), want)
		}
	}
}

// TestLongTold is likewise, of runs of many steps: of some witnesses alone.
func TestLongTold(t *testing.T) { // P15.1
	for _, x := range []struct {
		run
		many         int
		root, states string
	}{
		{runOf(deep, 4, one, 5, 1, 20, 19), 12025, "1dac502672fe386b", "21214d5877c36712"},
		{runOf(long, 7, 2*one, 60, 0, 2, 4), 10021, "2d18f6782eb78f7f", "5329475fdd5d6668"},
		{runOf(most, 5, one/4, 2, 2, 3, 2), 7412, "cb6588bf513931f7", "307ea0d59071848a"},
	} {
		y, e := trace.Build(x.w, x.a)
		if e != api.OK || y.Many() != x.many {
			t.Fatalf("%v: %d %d", x.w.Config, y.Many(), int(e))
		}
		states := statesOf(t, y)
		if all := beginning(sha256.Sum256(bytesOf(states...))); beginning(y.Root()) != x.root || all != x.states {
			t.Errorf("%v: %s, %s", x.w.Config, beginning(y.Root()), all)
		}
		root, _ := weights.Root(x.w)
		for i := 0; i < x.many; i += 97 {
			z, wrong := y.Witness(i)
			if d, e := trace.After(y.Plan(), root, x.a.Seed, i, states[i], z); d != states[i+1] || e != api.OK || wrong != api.OK {
				t.Errorf("%v: step %d: %d %d", x.w.Config, i, int(e), int(wrong))
			}
		}
	}
}

// sameCell tells whether two cells tell the same.
func sameCell(a, b trace.Cell) bool {
	return a.Place == b.Place && slices.Equal(a.L, b.L) && slices.Equal(a.Proof, b.Proof)
}

// sameWitness likewise of witnesses.
func sameWitness(a, b trace.Witness) bool {
	return slices.EqualFunc(a.Cells, b.Cells, sameCell) && slices.Equal(a.Weight, b.Weight) && slices.Equal(a.Proof, b.Proof)
}

// holdTrace holds all that a trace tells against what is wanted of it.
func holdTrace(t *testing.T, x *trace.Trace, want *plain) {
	t.Helper()
	many := len(want.l)
	if x.Plan() != want.p || x.Many() != many || !slices.Equal(x.Tokens(), want.tokens()) {
		t.Fatalf("%v %d %v, not %v %d %v", x.Plan(), x.Many(), x.Tokens(), want.p, many, want.tokens())
	}
	leaves := want.stateLeaves()
	if x.Root() != plainRoot(leaves) {
		t.Errorf("%v: another root", want.p)
	}
	for i := range many + 1 {
		if d, e := x.State(i); d != want.states[i] || e != api.OK {
			t.Fatalf("%v: State(%d): %d", want.p, i, int(e))
		}
		if i%(1+many/200) != 0 && i != many {
			continue
		}
		if l, e := x.Prove(i); !slices.Equal(l, plainProof(i, leaves)) || e != api.OK {
			t.Fatalf("%v: Prove(%d): %d", want.p, i, int(e))
		}
	}
	// All witnesses of a short run, and some of a longer one.
	for i := 0; i < many; i += 1 + many/700 {
		if y, e := x.Witness(i); !sameWitness(y, want.witness(i)) || e != api.OK {
			t.Fatalf("%v: Witness(%d), %v: %v %d, not %v", want.p, i, want.l[i], y, int(e), want.witness(i))
		}
	}
	last := want.cells[many]
	if c, e := x.Last(); !sameCell(c, trace.Cell{L: last[0], Proof: plainProof(0, plainLeaves(last))}) || e != api.OK {
		t.Errorf("%v: Last: %v %d", want.p, c, int(e))
	}
	holdNone(t, x)
}

// holdNone holds what a trace tells of what it has not.
func holdNone(t *testing.T, x *trace.Trace) {
	t.Helper()
	many := x.Many()
	for _, i := range append(farInts(), many+1, many+2, x.Plan().Many()+1) {
		if d, e := x.State(i); d != (api.Digest{}) || e != api.ErrRange {
			t.Errorf("%v: State(%d): %d", x.Plan(), i, int(e))
		}
		if l, e := x.Prove(i); len(l) != 0 || e != api.ErrRange {
			t.Errorf("%v: Prove(%d): %d", x.Plan(), i, int(e))
		}
	}
	for _, i := range append(farInts(), many, many+1, x.Plan().Many()) {
		if y, e := x.Witness(i); !sameWitness(y, trace.Witness{}) || e != api.ErrRange {
			t.Errorf("%v: Witness(%d): %v %d", x.Plan(), i, y, int(e))
		}
	}
}

func TestBuild(t *testing.T) { // P15.1, R1
	for _, r := range someRuns() {
		want := plainOf(r)
		x, e := trace.Build(r.w, r.a)
		y, wrong := trace.Far(r.w, r.a)
		if e != api.OK || wrong != api.OK || want.e != api.OK {
			t.Fatalf("%v: %d %d %d", r.w.Config, int(e), int(wrong), int(want.e))
		}
		holdTrace(t, x, want)
		holdTrace(t, y, want)
	}
}

// TestFar has runs that end with an error of a step.
func TestFar(t *testing.T) { // P15.1, R1
	ends := map[int]bool{}
	for _, r := range farRuns() {
		want := plainOf(r)
		if want.e == api.OK {
			t.Fatalf("%v: no error", r.w.Config)
		}
		if x, e := trace.Build(r.w, r.a); x != nil || e != want.e {
			t.Errorf("%v: Build: %v %d, not %d", r.w.Config, x, int(e), int(want.e))
		}
		x, e := trace.Far(r.w, r.a)
		if e != want.e {
			t.Fatalf("%v: Far: %d, not %d", r.w.Config, int(e), int(want.e))
		}
		holdTrace(t, x, want)
		s, _ := x.Plan().Step(x.Many())
		ends[s.Kind] = true
	}
	if len(ends) < 4 || !ends[steps.NormA] || !ends[steps.OutRow] {
		t.Error(ends)
	}
}

// TestFarOfAny has runs of all kinds whose numbers are so great that some end with an error, anywhere.
func TestFarOfAny(t *testing.T) { // P15.1
	tokens, ends := map[int]bool{}, map[int]bool{}
	for number := range uint64(36) {
		r := runOf([]weights.Config{small, middle}[number%2], number, []int{3, 4, 8}[number%3]*one, 1+int(number%3), byte(number), 4, 5)
		want := plainOf(r)
		x, e := trace.Far(r.w, r.a)
		if e != want.e {
			t.Fatalf("%d: %d, not %d", number, int(e), int(want.e))
		}
		holdTrace(t, x, want)
		if y, wrong := trace.Build(r.w, r.a); wrong != e || y == nil != (e != api.OK) {
			t.Errorf("%d: Build: %d, not %d", number, int(wrong), int(e))
		}
		tokens[len(x.Tokens())] = true
		s, _ := x.Plan().Step(x.Many())
		ends[s.Kind] = true
	}
	if len(tokens) < 3 || len(ends) < 5 {
		t.Error(tokens, ends)
	}
}

// TestRunIsTheSame holds the last state, and the tokens, against all cells to which steps.Run comes, and against model.Complete.
func TestRunIsTheSame(t *testing.T) { // P15.1, P15.4
	for _, r := range slices.Concat(someRuns(), farRuns()) {
		x, e := trace.Far(r.w, r.a)
		cells, n, wrong := steps.Run(r.w, x.Plan(), r.a)
		state, _ := x.State(n)
		if e != wrong || x.Many() != n || state != plainState(cells) || state != trace.State(cells) {
			t.Errorf("%v: %d steps %d, not %d %d", r.w.Config, x.Many(), int(e), n, int(wrong))
		}
		if last, _ := x.Last(); !slices.Equal(last.L, cells[steps.Tokens]) {
			t.Errorf("%v: %v, not %v", r.w.Config, last.L, cells[steps.Tokens])
		}
		if l, none := model.Complete(r.w, r.a); none != e || e == api.OK && !slices.Equal(x.Tokens(), l) {
			t.Errorf("%v: %v %d, not %v %d", r.w.Config, x.Tokens(), int(e), l, int(none))
		}
	}
}

// TestStopIsNotLookedAt: a run that one of Stop would end goes on, as steps.Run does.
func TestStopIsNotLookedAt(t *testing.T) { // P15.1
	for _, r := range slices.Concat(someRuns(), farRuns()) {
		want, wrong := trace.Far(r.w, r.a)
		for _, stop := range [][]int{{0, 1, 2, 3, 4, 5, 6}, want.Tokens(), {-1}, {math.MinInt, math.MaxInt}, {}} {
			a := r.a
			a.Stop = stop
			x, e := trace.Far(r.w, a)
			if e != wrong || x.Root() != want.Root() || x.Many() != want.Many() || x.Plan() != want.Plan() || !slices.Equal(x.Tokens(), want.Tokens()) {
				t.Errorf("%v: Stop %v: %d steps, %v", r.w.Config, stop, x.Many(), x.Tokens())
			}
			if y, e := trace.Build(r.w, a); e != wrong || y.Root() != want.Root() && e == api.OK {
				t.Errorf("%v: Stop %v: %d", r.w.Config, stop, int(e))
			}
		}
	}
	r := runOf(small, 1, 2*one, 2, 1, 5, 6)
	r.a.Stop = []int{3}
	x, _ := trace.Build(r.w, r.a)
	if l, _ := model.Complete(r.w, r.a); !slices.Equal(l, []int{2, 3}) || !slices.Equal(x.Tokens(), []int{2, 3, 2, 3, 1, 1}) {
		t.Error(l, x.Tokens())
	}
}

// TestExample is the chapter's.
func TestExample(t *testing.T) { // P15.1
	c := weights.Config{Vocab: 3, Dim: 2, Heads: 1, Layers: 1, Ctx: 2, Hidden: 2}
	w := made(c, 3, one)
	x, e := trace.Build(w, model.Ask{Prompt: []int{2}, K: 1, Limit: 1})
	if e != api.OK || x.Many() != 32 || len(statesOf(t, x)) != 33 {
		t.Fatal(x.Many(), int(e))
	}
	y, e := x.Witness(0)
	if e != api.OK || len(y.Cells) != 2 || y.Cells[0].Place != steps.Tokens || y.Cells[1].Place != steps.X {
		t.Error(y, int(e))
	}
	if !slices.Equal(y.Cells[0].L, []int{0, 2, -1}) || !slices.Equal(y.Cells[1].L, []int{0, 0}) || !slices.Equal(y.Weight, w.Embed.L[4:6]) {
		t.Error(y)
	}
}

func TestNilTrace(t *testing.T) { // P15.1, R1
	var x *trace.Trace
	if x.Plan() != (steps.Plan{}) || x.Many() != 0 || x.Root() != (api.Digest{}) || len(x.Tokens()) != 0 {
		t.Error(x.Plan(), x.Many(), x.Root(), x.Tokens())
	}
	if c, e := x.Last(); !sameCell(c, trace.Cell{}) || e != api.ErrNil {
		t.Error(c, int(e))
	}
	for _, i := range append(farInts(), 0, 1, 32) {
		if d, e := x.State(i); d != (api.Digest{}) || e != api.ErrNil {
			t.Error(i, d, int(e))
		}
		if l, e := x.Prove(i); len(l) != 0 || e != api.ErrNil {
			t.Error(i, l, int(e))
		}
		if y, e := x.Witness(i); !sameWitness(y, trace.Witness{}) || e != api.ErrNil {
			t.Error(i, y, int(e))
		}
	}
}

// asks is what may be asked of the middle sizes, and what may not, two at once, too.
func asks() []struct {
	what string
	turn func(c *weights.Config, a *model.Ask)
	e    api.Errno
} {
	type config = *weights.Config
	type ask = *model.Ask
	return []struct {
		what string
		turn func(c *weights.Config, a *model.Ask)
		e    api.Errno
	}{
		{"right", func(c config, a ask) {}, api.OK},
		{"up to Ctx", func(c config, a ask) { a.Limit = 6 }, api.OK},
		{"no sizes", func(c config, a ask) { *c = weights.Config{} }, api.ErrRange},
		{"no sizes, and no prompt", func(c config, a ask) { c.Layers, a.Prompt = 5, nil }, api.ErrRange},
		{"heads that do not go", func(c config, a ask) { c.Heads = 3 }, api.ErrSize},
		{"heads that do not go, and no K", func(c config, a ask) { c.Heads, a.K = 3, 0 }, api.ErrSize},
		{"no prompt", func(c config, a ask) { a.Prompt = nil }, api.ErrSize},
		{"no prompt, and a Limit too long", func(c config, a ask) { a.Prompt, a.Limit = []int{}, 10 }, api.ErrSize},
		{"no Limit", func(c config, a ask) { a.Limit = 0 }, api.ErrSize},
		{"no Limit, and a token that is none", func(c config, a ask) { a.Limit, a.Prompt = -1, []int{9} }, api.ErrSize},
		{"the least Limit, and a prompt too long", func(c config, a ask) { a.Limit, a.Prompt = math.MinInt, make([]int, 20) }, api.ErrSize},
		{"a Limit too long", func(c config, a ask) { a.Limit = 7 }, api.ErrLong},
		{"the greatest Limit, and no K", func(c config, a ask) { a.Limit, a.K = math.MaxInt, 0 }, api.ErrLong},
		{"a prompt too long, of no tokens", func(c config, a ask) { a.Prompt = slices.Repeat([]int{-1}, 9) }, api.ErrLong},
		{"a smaller Ctx", func(c config, a ask) { c.Ctx = 7 }, api.ErrLong},
		{"a token below 0", func(c config, a ask) { a.Prompt = []int{0, -1, 0} }, api.ErrRange},
		{"a token of Vocab", func(c config, a ask) { a.Prompt = []int{7} }, api.ErrRange},
		{"a token far off", func(c config, a ask) { a.Prompt = []int{math.MaxInt, 0} }, api.ErrRange},
		{"no K", func(c config, a ask) { a.K = 0 }, api.ErrRange},
		{"K above Vocab", func(c config, a ask) { a.K = 8 }, api.ErrRange},
		{"the least K", func(c config, a ask) { a.K = math.MinInt }, api.ErrRange},
	}
}

func TestPlanOf(t *testing.T) { // P15.1, R1
	for _, x := range asks() {
		c, a := middle, model.Ask{Prompt: []int{0, 6, 3}, Seed: seedOf(9), K: 3, Limit: 5, Stop: []int{1}}
		x.turn(&c, &a)
		want := steps.Plan{Config: c, Prompt: len(a.Prompt), Limit: a.Limit, K: a.K}
		if x.e != api.OK {
			want = steps.Plan{}
		}
		if p, e := trace.PlanOf(c, a); p != want || e != x.e {
			t.Errorf("%s: %v %d, not %v %d", x.what, p, int(e), want, int(x.e))
		}
	}
	for _, r := range someRuns() {
		x, _ := trace.Build(r.w, r.a)
		if p, e := trace.PlanOf(r.w.Config, r.a); p != x.Plan() || e != api.OK {
			t.Errorf("%v: %v %d", r.w.Config, p, int(e))
		}
	}
}

// TestBuildWrong has models and asks that may not be: the model's error comes first, then the ask's, then a step's.
func TestBuildWrong(t *testing.T) { // P15.1, R1
	refuse := func(what string, w weights.Weights, a model.Ask, want api.Errno) {
		t.Helper()
		if x, e := trace.Build(w, a); x != nil || e != want {
			t.Errorf("%s: Build: %v %d, not %d", what, x, int(e), int(want))
		}
		if x, e := trace.Far(w, a); x != nil || e != want {
			t.Errorf("%s: Far: %v %d, not %d", what, x, int(e), int(want))
		}
	}
	for _, x := range asks() {
		// The model's steps have an error, too, which comes last.
		w, a := made(middle, 2, 256*one), model.Ask{Prompt: []int{0, 6, 3}, Seed: seedOf(9), K: 3, Limit: 5}
		c := middle
		x.turn(&c, &a)
		if x.e == api.OK || c != middle {
			continue
		}
		refuse(x.what, w, a, x.e)
		w.Out.L[27] = maxWeight + 1
		refuse(x.what+", and no weight", w, a, api.ErrRange)
		w.Layers = w.Layers[1:]
		refuse(x.what+", and a layer too few", w, a, api.ErrSize)
		w.Alphabet[1] = w.Alphabet[0]
		refuse(x.what+", and a byte twice", w, a, api.ErrThere)
		w.Config.Hidden = 65
		refuse(x.what+", and no sizes", w, a, api.ErrRange)
		w.Config.Hidden, w.Config.Heads = 5, 3
		refuse(x.what+", and heads that do not go", w, a, api.ErrSize)
		refuse(x.what+", and no model", weights.Weights{}, a, api.ErrRange)
	}
}
