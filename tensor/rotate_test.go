package tensor_test

import (
	"slices"
	"strconv"
	"testing"

	"cupel/api"
	"cupel/tensor"
)

// ones is so many pairs of 65536 and 0, which are turned to angles.
func ones(pairs int) []int {
	var l []int
	for range pairs {
		l = append(l, one, 0)
	}
	return l
}

// TestRotateTold has answers that another program has worked out.
func TestRotateTold(t *testing.T) { // P7.4
	for i, c := range []struct {
		v  []int
		at int
		w  []int
	}{
		{ones(5), 0, ones(5)}, {ones(5), 1, []int{39322, 52429, 60495, 25206, 57826, 30840, 62915, 18350, 39322, 52429}},
		{ones(4), 2, []int{-18350, 62916, 46147, 46534, 36510, 54424, 55261, 35232}}, {ones(4), 3, []int{-61343, 23070, 24699, 60704, 6604, 65202, 43186, 49296}},
		{ones(4), 63, []int{-19376, 62635, 63318, -16924, 55895, -34202, 37021, -54108}}, {ones(4), 511, []int{-56594, 33472, 51255, 40966, 37389, -53734, 57577, 31746}},
		{ones(4), 1022, []int{31791, -57809, 14468, 64061, -22720, -61325, 35190, 55783}}, {ones(4), 1023, []int{65322, -9253, -11284, 64698, 8811, -64802, 18164, 63405}},
		{[]int{1, 2, 3, 4, 5, 6, 7, 8, 9, 10}, 3, []int{-2, -2, -3, 5, -5, 6, -1, 10, -12, -6}},
		{[]int{1000, -2000, 1000, -2000, 1000, -2000, 1000, -2000, 1000, -2000}, 1023, []int{715, -2134, 1802, 1331, -1844, -1258, 2212, 413, 715, -2134}},
		{[]int{12345, 67890, -12345, 67890, 12345, -67890, -12345, -67890, 1, -1}, 1022, []int{65873, 22044, -69087, 2921, -67808, 11984, 51158, -46962, -1, -1}},
		{[]int{high / 2, low / 2}, 1023, []int{918634495, -1221836800}},
		// At the place 0 nothing turns.
		{[]int{low, high}, 0, []int{low, high}}, {[]int{high, low, low, low, high, high, low, high, 1, -1}, 0, []int{high, low, low, low, high, high, low, high, 1, -1}},
		// A product is rounded ahead of being taken off: on a half that is not the same as its other side.
		{[]int{0, 32768}, 1, []int{-26215, 19661}}, {[]int{0, -32768}, 1, []int{26214, -19661}}, {[]int{32768, 0}, 1, []int{19661, 26215}}, {joined(row(6, 0), []int{0, 16384}), 1, joined(row(6, 0), []int{-4588, 15729})}, {joined(row(6, 0), []int{0, -16384}), 1, joined(row(6, 0), []int{4587, -15729})},
	} {
		w, e := tensor.Rotate(c.v, c.at)
		hold(t, strconv.Itoa(i), w, e, c.w, api.OK)
	}
}

// TestRotateJust has turned pairs that are just numbers, and just none.
func TestRotateJust(t *testing.T) { // P7.4
	for i, c := range []struct {
		v  []int
		at int
		w  []int
	}{
		{[]int{1364093457, -1661267722}, 1, []int{high, 94508155}}, {[]int{1364093459, -1661267722}, 1, nil}, {[]int{-1040182330, 1904202612}, 1, []int{low, 310384152}}, {[]int{-1040182332, 1904202612}, 1, nil},
		{[]int{1404941458, 1705859636}, 1, []int{-521719465, high}}, {[]int{1404941459, 1705859636}, 1, nil}, {[]int{-1568168883, -1488224455}, 1, []int{249673205, low}}, {[]int{-1568168884, -1488224455}, 1, nil},
		{[]int{high, low}, 1, nil}, {[]int{low, low}, 1, nil}, {[]int{high, high}, 1, nil}, {joined(row(510, 0), []int{high, high}), 1, nil}, {joined([]int{high, high}, row(510, 0)), 1, nil},
		// A product that is the least number may be taken off.
		{[]int{-1000000, -2146206456}, 83, []int{2147479894, -9056729}}, {[]int{1000000, 2145584785}, 188, []int{2147456274, -59734697}},
		// A product that is no number is told, even if less the other one it would be one.
		{[]int{high, 100000000}, 61, nil}, {[]int{low, 100000000}, 105, nil},
	} {
		w, e := tensor.Rotate(c.v, c.at)
		wantE := api.OK
		if c.w == nil {
			wantE = api.ErrOver
		}
		hold(t, strconv.Itoa(i), w, e, c.w, wantE)
	}
}

// TestRotateAllPlaces holds the angles of all places, step by step.
func TestRotateAllPlaces(t *testing.T) { // P7.4
	var c, d [4]int
	for j := range 4 {
		c[j], d[j] = 65536, 0
	}
	sums := [4]uint32{}
	for at := range 1024 {
		w, e := tensor.Rotate(ones(4), at)
		if len(w) != 8 || e != api.OK {
			t.Fatal(at, w, int(e))
		}
		for j := range 4 {
			if w[2*j] != c[j] || w[2*j+1] != d[j] {
				t.Fatalf("place %d, pair %d: %d %d, not %d %d", at, j, w[2*j], w[2*j+1], c[j], d[j])
			}
			sums[j] = (sums[j]*31+uint32(c[j]))*31 + uint32(d[j])
			x, y := turn(j)
			c[j], d[j], _ = wantTurned(c[j], d[j], x, y)
		}
	}
	// Another program has worked these out.
	if sums != [4]uint32{1522130999, 3624830706, 10368254, 1601518800} {
		t.Error(sums)
	}
}

// TestRotatePairs holds that from the fifth pair on angles are the same again, and that each pair turns for itself.
func TestRotatePairs(t *testing.T) { // P7.4
	for _, pairs := range []int{1, 2, 3, 4, 5, 8, 9, 32, 255, 256} {
		for _, at := range []int{0, 1, 2, 500, 1022, 1023} {
			four, e := tensor.Rotate(ones(4), at)
			if e != api.OK {
				t.Fatal(int(e))
			}
			w, e := tensor.Rotate(ones(pairs), at)
			hold(t, strconv.Itoa(at), w, e, slices.Repeat(four, 64)[:2*pairs], api.OK)
			v := upDown(512)[:2*pairs]
			for i, n := range v {
				v[i] = n >> 1
			}
			w, e = tensor.Rotate(v, at)
			want, wantE := wantRotate(v, at)
			hold(t, strconv.Itoa(at), w, e, want, wantE)
		}
	}
}

func TestRotateWrong(t *testing.T) { // P7.4, R1
	for i, c := range []struct {
		v  []int
		at int
		e  api.Errno
	}{
		{nil, 0, api.ErrSize}, {[]int{}, 1, api.ErrSize}, {[]int{1}, 0, api.ErrSize}, {row(3, 1), 0, api.ErrSize}, {row(511, 1), 0, api.ErrSize}, {row(513, 1), 0, api.ErrSize}, {row(514, 1), 0, api.ErrSize}, {row(1024, 1), 1, api.ErrSize},
		{row(2, 0), 1024, api.ErrRange}, {row(2, 0), 1025, api.ErrRange}, {row(512, 0), 1024, api.ErrRange}, {row(2, 0), one, api.ErrRange}, {row(2, 0), 1 << 32, api.ErrRange},
		// A size is told ahead of a number or a place, and these ahead of what comes of them.
		{[]int{high + 1}, -1, api.ErrSize}, {nil, -1, api.ErrSize}, {row(514, high+1), 1024, api.ErrSize},
		{[]int{high, high}, 1024, api.ErrRange}, {[]int{high, high, low - 1, 0}, 1, api.ErrRange}, {[]int{high + 1, 0}, 1024, api.ErrRange},
	} {
		w, e := tensor.Rotate(c.v, c.at)
		hold(t, strconv.Itoa(i), w, e, nil, c.e)
	}
	for _, at := range noCounts() {
		w, e := tensor.Rotate([]int{1, 2}, at)
		hold(t, strconv.Itoa(at), w, e, nil, api.ErrRange)
	}
	for _, n := range noNumbers() {
		for _, i := range []int{0, 1, 511} {
			w, e := tensor.Rotate(with(row(512, 0), i, n), 0)
			hold(t, strconv.Itoa(n), w, e, nil, api.ErrRange)
		}
	}
}
