package model_test

import (
	"slices"
	"testing"

	"cupel/api"
	"cupel/model"
)

// TestScoreTold has answers that another program has worked out.
func TestScoreTold(t *testing.T) { // P11.1
	many := func(n, times int) []int { return slices.Repeat([]int{n}, times) }
	for _, x := range []struct {
		q, k []int
		n    int
	}{
		{[]int{one, 0}, []int{2 * one, 5 * one}, 92682},
		{[]int{one}, []int{7}, 7},
		{[]int{0}, []int{0}, 0},
		{[]int{-1}, []int{one}, -1},
		// What is divided is rounded below, also below 0; what is multiplied is rounded.
		{[]int{-1, 0}, []int{one, 0}, -1},
		{[]int{1, 1, 1}, []int{one, one, one}, 1},
		{[]int{-1, -1, -1}, []int{one, one, one}, -2},
		{many(1, 8), many(-one, 8), -3},
		{[]int{-3}, []int{32768}, -1},
		{[]int{3}, []int{32768}, 2},
		{[]int{-1}, []int{32768}, 0},
		{[]int{1}, []int{-32768}, 0},
		// Each product is rounded for itself.
		{[]int{1, 1, 1, 1}, []int{32767, 32767, 32767, 32767}, 0},
		{[]int{1, 1, 1, 1}, []int{32768, 32768, 32768, 32768}, 2},
		{[]int{-5, 3, -7}, []int{one, one, one}, -6},
		{[]int{5, 3, 7}, []int{-one, -one, one}, -1},
		{[]int{-100000, 200000, -300000, 50000, 7}, []int{123456, -65432, 99999, -1, 33333}, -378264},
		{[]int{46341, -46341}, []int{92682, 92681}, 0},
		{[]int{high}, []int{one}, high},
		{[]int{low}, []int{one}, low},
		{[]int{high, low, 5}, []int{one, one, one}, 2},
		{many(low, 4), []int{32768, 32768, -32768, -32768}, 0},
		{many(1<<20, 64), many(1<<20+17, 64), 134219904},
		{many(-1<<20, 63), many(1<<20+17, 63), -133167407},
	} {
		if n, e := model.Score(x.q, x.k); n != x.n || e != api.OK {
			t.Errorf("Score %v %v: %d %d, not %d", x.q, x.k, n, int(e), x.n)
		}
		if n, e := model.Score(x.k, x.q); n != x.n || e != api.OK {
			t.Errorf("Score %v %v: %d %d, not %d", x.k, x.q, n, int(e), x.n)
		}
	}
}

func refuseScore(t *testing.T, q, k []int, wrong api.Errno) {
	t.Helper()
	if n, e := model.Score(q, k); n != 0 || e != wrong {
		t.Errorf("Score of %d and %d numbers: %d %d, not %d", len(q), len(k), n, int(e), int(wrong))
	}
}

func TestScoreWrong(t *testing.T) { // P11.1, R1
	for _, x := range []struct{ q, k []int }{
		{nil, nil}, {[]int{}, nil}, {nil, []int{1}}, {[]int{1}, nil}, {[]int{1}, []int{}}, {[]int{1, 2}, []int{1}}, {[]int{1}, []int{1, 2}}, {make([]int, 64), make([]int, 63)},
		// It is so, whatever numbers they have.
		{[]int{1 << 40}, nil}, {[]int{1 << 40, 1}, []int{1}}, {[]int{high}, []int{high, high}},
	} {
		refuseScore(t, x.q, x.k, api.ErrSize)
	}
	for _, n := range notNumbers() {
		for at := range 3 {
			q, right := []int{1, 2, 3}, []int{4, 5, 6}
			q[at] = n
			refuseScore(t, q, right, api.ErrRange)
			refuseScore(t, right, q, api.ErrRange)
		}
	}
	for _, x := range []struct{ q, k []int }{
		{[]int{1 << 30}, []int{1 << 30}}, {[]int{low}, []int{low}}, {[]int{low}, []int{-one}}, {[]int{high, high}, []int{one, one}}, {[]int{low, -1}, []int{one, one}}, {[]int{1, high}, []int{one, one}},
		// They are added from the first one on.
		{[]int{high, 1, -5}, []int{one, one, one}}, {[]int{low, -1, 5}, []int{one, one, one}},
	} {
		refuseScore(t, x.q, x.k, api.ErrOver)
	}
	holdScore(t, []int{-5, high, 1}, []int{one, one, one})
	holdScore(t, []int{high, -5, 1}, []int{one, one, one})
}

// TestScoreFirstError has two errors, of which the first one is told.
func TestScoreFirstError(t *testing.T) { // P11.1, R1
	const none = 1 << 31
	for _, x := range []struct {
		q, k []int
		e    api.Errno
	}{
		{[]int{none, 1 << 30}, []int{1, 1 << 30}, api.ErrRange}, {[]int{1 << 30, none}, []int{1 << 30, 1}, api.ErrOver}, {[]int{1 << 30, 1}, []int{1 << 30, none}, api.ErrOver},
		{[]int{high, 1, none}, []int{one, one, one}, api.ErrOver}, {[]int{high, none, 1}, []int{one, one, one}, api.ErrRange}, {[]int{low, 1, -1, -1}, []int{one, one, one, none}, api.ErrRange},
		{[]int{low, -1, 1, -1}, []int{one, one, one, none}, api.ErrOver},
	} {
		refuseScore(t, x.q, x.k, x.e)
	}
}

// TestScoreOfMany: how many they are has to be a number itself.
func TestScoreOfMany(t *testing.T) { // P11.1
	l := slices.Repeat([]int{-1}, 32767)
	if n, e := model.Score(l, slices.Repeat([]int{one}, 32767)); n != -182 || e != api.OK {
		t.Error(n, int(e))
	}
	l = append(l, 0)
	refuseScore(t, l, l, api.ErrRange)
	refuseScore(t, slices.Repeat([]int{1}, 100000), make([]int, 100000), api.ErrRange)
	// That is asked behind the sum.
	l[32767] = high
	refuseScore(t, l, l, api.ErrOver)
}

func TestScoreOfAny(t *testing.T) { // P11.1
	c := newChance(1)
	for range 4000 {
		many, bits := 1+c.IntN(9), 1+c.IntN(31)
		q, k := numbers(c, many, bits), numbers(c, many, 1+c.IntN(31))
		if c.IntN(10) == 0 {
			q[c.IntN(many)] = notNumbers()[c.IntN(5)]
		}
		if c.IntN(20) == 0 {
			k = k[1:]
		}
		holdScore(t, q, k)
	}
}

func TestAttendTold(t *testing.T) { // P11.1
	for _, x := range []struct {
		q            []int
		keys, values [][]int
		heads        int
		l            []int
	}{
		{[]int{0, 0}, [][]int{{one, one}, {0, 0}}, [][]int{{4 * one, 0}, {2 * one, 2 * one}}, 2, []int{3 * one, one}},
		{[]int{129971}, [][]int{{-62682}}, [][]int{{192302}}, 1, []int{192302}},
		{[]int{28451, -57933}, [][]int{{56524, -249}}, [][]int{{-51943, -24419}}, 1, []int{-51943, -24419}},
		{[]int{-137256, -1682}, [][]int{{49319, -67333}, {3018, 88479}, {-143145, 104302}}, [][]int{{-65887, -189733}, {186742, -82980}, {17380, -50079}}, 1, []int{22262, -53038}},
		{[]int{-101148, 7569}, [][]int{{-112930, -158896}, {-123854, 127363}, {127114, 36614}}, [][]int{{-130182, -127276}, {-195678, -193823}, {-86793, -83634}}, 2, []int{-166993, -139224}},
		{[]int{-44116, -43787, 20607, 33371}, [][]int{{-26797, -23709, -35826, -27851}, {69847, 25579, -119763, 58295}, {86458, -44064, -54683, 7241}, {-96921, 42915, 26926, -129299}}, [][]int{{46083, -96458, 31435, 55234}, {29393, 120976, 34494, -34198}, {121225, 116674, -38735, -101188}, {3241, -119084, 56436, 80894}}, 2, []int{42035, -40778, 17025, -10814}},
		{[]int{-243199, 177028, 121828, 132503, -252625, 212674}, [][]int{{-213148, -72437, -56077, -137342, -4104, 222513}, {98966, 109883, 937, 223189, -148843, 122995}}, [][]int{{48091, -223734, 191864, -166535, -43534, 95148}, {118096, -106750, 94329, 26923, -165599, 65483}}, 3, []int{48143, -223643, 94338, 26902, -156636, 67660}},
		{[]int{4508, -6637, -141582, -245686, -171581, -3352}, [][]int{{179614, -158305, -276770, -242790, 302146, 231767}, {97924, -294308, -78815, 295132, 32854, -65317}, {150119, 114564, -174977, -269267, -293370, 189859}, {22738, -110562, -190766, 263766, -188454, 106244}, {-215870, -150659, 127984, 63436, -171185, -266055}}, [][]int{{113399, -18547, -179619, 147487, 322858, -150167}, {219880, 147891, 184191, 5454, 174632, -40333}, {-22521, 165235, 95723, -174057, -209652, 67633}, {229902, -139570, 195897, 27240, -138811, -234213}, {188074, -42143, 212524, 247045, 199569, 51198}}, 6, []int{139343, 21016, -150234, -116095, -205570, -53464}},
		{[]int{-97985, 55416, -113080, 29202, 59470, 16175, 123566, 7790}, [][]int{{22991, 47224, -37409, -125001, 117599, 362, 39796, 12417}, {111641, 20356, 55873, 51319, 12517, 50112, 83083, 52452}, {-40647, 104744, 59912, 44218, -56698, -43950, -26921, 58735}}, [][]int{{119138, 17227, -89739, 87363, -40986, 89544, 27612, 10855}, {-116591, -28522, -47174, 100174, -36311, -16233, -36421, -109125}, {116174, -12456, -44174, -102686, -61066, -72966, 35311, -35889}}, 1, []int{75909, 3672, -73940, 55952, -43702, 41540, 17379, -19174}},
		{[]int{121981, -29696, -112378}, [][]int{{86764, 112895, 53005}, {68314, -93336, -23926}}, [][]int{{-6372, 65017, -130726}, {52701, 81461, 14956}}, 1, []int{43443, 78883, -7874}},
	} {
		if l, e := model.Attend(x.q, x.keys, x.values, x.heads); !slices.Equal(l, x.l) || e != api.OK {
			t.Errorf("Attend %v %d: %v %d, not %v", x.q, x.heads, l, int(e), x.l)
		}
	}
}

// TestAttendOfEqualShares has what is looked for suit all keys as well.
func TestAttendOfEqualShares(t *testing.T) { // P11.1
	c := newChance(2)
	for _, heads := range []int{1, 2, 3, 4, 6, 12} {
		for many := 1; many <= 64; many *= 2 {
			keys := vectors(c, many, 12, 20)
			values := slices.Repeat([][]int{numbers(c, 12, 20)}, many)
			if l, e := model.Attend(make([]int, 12), keys, values, heads); !slices.Equal(l, values[0]) || e != api.OK {
				t.Errorf("%d heads, %d keys: %v %d, not %v", heads, many, l, int(e), values[0])
			}
		}
	}
}

// TestAttendByHead: each head's part hangs on that head's parts alone.
func TestAttendByHead(t *testing.T) { // P11.1
	c := newChance(3)
	for _, heads := range []int{1, 2, 4, 8} {
		q, keys, values := numbers(c, 8, 19), vectors(c, 5, 8, 19), vectors(c, 5, 8, 19)
		all, e := model.Attend(q, keys, values, heads)
		if e != api.OK {
			t.Fatal(int(e))
		}
		for h := range heads {
			parts := func(l [][]int) [][]int {
				var parts [][]int
				for _, v := range l {
					parts = append(parts, part(v, h, heads))
				}
				return parts
			}
			l, e := model.Attend(part(q, h, heads), parts(keys), parts(values), 1)
			if !slices.Equal(l, part(all, h, heads)) || e != api.OK {
				t.Errorf("%d heads: %v %d, not %v", heads, l, int(e), all)
			}
		}
	}
}

func refuseAttend(t *testing.T, what string, q []int, keys, values [][]int, heads int, wrong api.Errno) {
	t.Helper()
	if l, e := model.Attend(q, keys, values, heads); len(l) != 0 || e != wrong {
		t.Errorf("%s: %v %d, not %d", what, l, int(e), int(wrong))
	}
}

func TestAttendOfHeads(t *testing.T) { // P11.1, R1
	l := [][]int{{1, 2, 3, 4, 5, 6}, {6, 5, 4, 3, 2, 1}}
	for _, heads := range append(farNumbers(), 0, -6, 4, 5, 7, 12) {
		refuseAttend(t, "heads", l[0], l, l, heads, api.ErrSize)
		refuseAttend(t, "heads of none", nil, [][]int{nil}, [][]int{nil}, heads, api.ErrSize)
		refuseAttend(t, "heads of what is no number", []int{1, 1 << 40, 3, 4, 5, 6}, l, l, heads, api.ErrSize)
	}
	for _, heads := range []int{1, 2, 3, 6} {
		holdAttend(t, l[0], l, l, heads)
		refuseAttend(t, "none", nil, [][]int{nil}, [][]int{nil}, heads, api.ErrSize)
		refuseAttend(t, "none, and no keys", []int{}, nil, nil, heads, api.ErrSize)
	}
	refuseAttend(t, "more heads than numbers", []int{1}, [][]int{{1}}, [][]int{{1}}, 2, api.ErrSize)
}

func TestAttendOfSizes(t *testing.T) { // P11.1, R1
	q := []int{1, 2}
	l := func(many int) [][]int { return slices.Repeat([][]int{{3, 4}}, many) }
	for keys := range 4 {
		for values := range 4 {
			if keys != values || keys == 0 {
				refuseAttend(t, "not as many, or none", q, l(keys), l(values), 1, api.ErrSize)
				refuseAttend(t, "not as many, or none, of what is no number", []int{1 << 40, 2}, l(keys), l(values), 1, api.ErrSize)
			}
		}
	}
	for at := range 3 {
		for _, other := range [][]int{nil, {3}, {3, 4, 5}, {1, 1, 1, 1}, {1 << 40, 1, 2}} {
			wrong := l(3)
			wrong[at] = other
			refuseAttend(t, "a key", q, wrong, l(3), 1, api.ErrSize)
			refuseAttend(t, "a value", q, l(3), wrong, 1, api.ErrSize)
			refuseAttend(t, "a key, of two heads", q, wrong, l(3), 2, api.ErrSize)
			refuseAttend(t, "a value, of two heads", q, l(3), wrong, 2, api.ErrSize)
			refuseAttend(t, "a value, behind a number that is none", []int{1 << 40, 2}, l(3), wrong, 2, api.ErrSize)
			refuseAttend(t, "a key and its value", q, wrong, wrong, 1, api.ErrSize)
		}
	}
	refuseAttend(t, "all keys and values", q, [][]int{{1}, {1}}, [][]int{{1}, {1}}, 1, api.ErrSize)
}

// TestAttendPassesErrorsOn: the first one, head by head, and of each head scores ahead of what is mixed.
func TestAttendPassesErrorsOn(t *testing.T) { // P11.1, R1
	const none, over = 1 << 31, 1 << 30
	zeros := func(many int) [][]int { return slices.Repeat([][]int{{0, 0}}, many) }
	for _, x := range []struct {
		what         string
		q            []int
		keys, values [][]int
		heads        int
		e            api.Errno
	}{
		{"q", []int{0, none}, zeros(2), zeros(2), 1, api.ErrRange},
		{"a key", []int{0, 0}, [][]int{{0, 0}, {none, 0}}, zeros(2), 1, api.ErrRange},
		{"a value", []int{0, 0}, zeros(2), [][]int{{0, 0}, {0, none}}, 1, api.ErrRange},
		{"a score", []int{over, 0}, [][]int{{0, 0}, {over, 0}}, zeros(2), 1, api.ErrOver},
		{"a score of the last head", []int{0, over}, [][]int{{0, 0}, {0, over}}, zeros(2), 2, api.ErrOver},
		{"scores in order", []int{over, over}, [][]int{{over, 0}, {0, none}}, zeros(2), 1, api.ErrOver},
		{"scores in order, the other one ahead", []int{over, over}, [][]int{{none, 0}, {0, over}}, zeros(2), 1, api.ErrRange},
		{"heads in order", []int{over, over}, [][]int{{0, none}, {over, 0}}, zeros(2), 2, api.ErrOver},
		{"heads in order, the other one ahead", []int{over, over}, [][]int{{0, over}, {none, 0}}, zeros(2), 2, api.ErrRange},
		{"a score ahead of what is mixed", []int{over, 0}, [][]int{{0, 0}, {over, 0}}, [][]int{{none, 0}, {0, 0}}, 1, api.ErrOver},
		{"what is mixed ahead of the next head", []int{0, over}, [][]int{{0, over}, {0, 0}}, [][]int{{0, 0}, {none, 0}}, 2, api.ErrRange},
		{"a score ahead of a value of the next head", []int{over, 0}, [][]int{{over, 0}}, [][]int{{0, none}}, 2, api.ErrOver},
		{"more than are mixed", []int{0, 0}, zeros(65), zeros(65), 1, api.ErrSize},
		{"more than are mixed, behind a score", []int{0, over}, slices.Concat(zeros(64), [][]int{{0, over}}), zeros(65), 1, api.ErrOver},
		{"more than are mixed, ahead of a value", []int{0, 0}, zeros(65), slices.Concat([][]int{{none, 0}}, zeros(64)), 1, api.ErrSize},
		{"more than are mixed, ahead of the next head", []int{0, over}, slices.Concat([][]int{{0, over}}, zeros(64)), zeros(65), 2, api.ErrSize},
		{"more than have shares", []int{0, 0}, zeros(513), zeros(513), 2, api.ErrSize},
		{"more than have shares, behind a score", []int{0, none}, zeros(513), zeros(513), 1, api.ErrRange},
	} {
		refuseAttend(t, x.what, x.q, x.keys, x.values, x.heads, x.e)
		holdAttend(t, x.q, x.keys, x.values, x.heads)
	}
	holdAttend(t, []int{0, 0}, zeros(64), zeros(64), 2)
}

// TestAttendOfLong has vectors that are longer than tensor's, if heads part them.
func TestAttendOfLong(t *testing.T) { // P11.1
	c := newChance(4)
	for _, x := range []struct {
		size, heads int
		e           api.Errno
	}{{512, 1, api.OK}, {513, 1, api.ErrSize}, {1026, 2, api.ErrSize}, {1024, 2, api.OK}, {513, 513, api.OK}, {900, 300, api.OK}} {
		q, l := numbers(c, x.size, 16), vectors(c, 2, x.size, 16)
		holdAttend(t, q, l, l, x.heads)
		if _, e := model.Attend(q, l, l, x.heads); e != x.e {
			t.Errorf("%d numbers, %d heads: %d, not %d", x.size, x.heads, int(e), int(x.e))
		}
	}
}

func TestAttendOfAny(t *testing.T) { // P11.1
	c := newChance(5)
	wrong := 0
	for range 3000 {
		heads := 1 + c.IntN(4)
		size, many, bits := heads*(1+c.IntN(5)), 1+c.IntN(6), 8+c.IntN(24)
		q, keys, values := numbers(c, size, bits), vectors(c, many, size, bits), vectors(c, many, size, 31)
		for c.IntN(4) == 0 {
			keys[c.IntN(many)][c.IntN(size)] = notNumbers()[c.IntN(5)]
		}
		for c.IntN(6) == 0 {
			values[c.IntN(many)][c.IntN(size)] = notNumbers()[c.IntN(5)]
		}
		if c.IntN(20) == 0 {
			i := c.IntN(many)
			keys[i] = keys[i][:size-1]
		}
		if c.IntN(20) == 0 {
			heads++
		}
		holdAttend(t, q, keys, values, heads)
		if _, e := model.Attend(q, keys, values, heads); e != api.OK {
			wrong++
		}
	}
	if wrong < 500 || wrong > 2500 {
		t.Error(wrong)
	}
}

// TestAttendOfOneShare has one score that is so far above the others that it has all.
func TestAttendOfOneShare(t *testing.T) { // P11.1
	q := []int{1 << 23, -1 << 23}
	keys := [][]int{{1 << 22, 0}, {1 << 22, -1 << 22}, {-1 << 22, 1 << 22}}
	values := [][]int{{high, 1}, {-7, 9}, {low, 1}}
	if l, e := model.Attend(q, keys, values, 1); !slices.Equal(l, values[1]) || e != api.OK {
		t.Error(l, int(e))
	}
}
