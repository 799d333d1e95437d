package model_test

import (
	"fmt"
	"slices"
	"sync"
	"testing"

	"cupel/api"
	"cupel/model"
	"cupel/weights"
)

// roomBehind is how many things stand behind the length of what is handed in.
const roomBehind = 5

// inRoom is things that stand with room behind them in a longer row; and that row.
func inRoom[T any](v []T, behind T) (stood, room []T) {
	room = append(slices.Clone(v), slices.Repeat([]T{behind}, roomBehind)...)
	return room[:len(v)], room
}

// inRooms is vectors that stand so, also each in its own room; and all rows, that of the vectors, too.
func inRooms(l [][]int) (stood [][]int, rooms [2][][]int) {
	for _, v := range l {
		s, room := inRoom(v, 77)
		stood, rooms[0] = append(stood, s), append(rooms[0], room)
	}
	stood, rooms[1] = inRoom(stood, []int{78, 79})
	return stood, rooms
}

// roomyModel is a model that stands in room; what is told of it is all that stands there now.
func roomyModel(w weights.Weights) (weights.Weights, func() string) {
	w = cloned(w)
	w.Layers, _ = inRoom(w.Layers, weights.Layer{Norm1: []int{7}})
	var rooms [][]int
	for _, y := range lists(&w) {
		stood, room := inRoom(*y.l, 77)
		*y.l, rooms = stood, append(rooms, room)
	}
	layers := w.Layers[:cap(w.Layers)]
	return w, func() string { return fmt.Sprint(w, rooms, layers) }
}

// roomyPast is likewise a past.
func roomyPast(p model.Past) (model.Past, func() string) {
	var rooms [][2][][]int
	for i, c := range p.Layers {
		var keys, values [2][][]int
		p.Layers[i].Keys, keys = inRooms(c.Keys)
		p.Layers[i].Values, values = inRooms(c.Values)
		rooms = append(rooms, keys, values)
	}
	p.Layers, _ = inRoom(p.Layers, model.Cache{Keys: [][]int{{7}}})
	layers := p.Layers[:cap(p.Layers)]
	return p, func() string { return fmt.Sprint(p, rooms, layers) }
}

func TestNothingIsWrittenOfParts(t *testing.T) { // R2
	chance := newChance(50)
	for range 300 {
		heads := 1 + chance.IntN(3)
		size := heads * (1 + chance.IntN(4))
		q, qRoom := inRoom(numbers(chance, size, 24), 77)
		keys, keyRooms := inRooms(vectors(chance, 1+chance.IntN(4), size, 24))
		values, valueRooms := inRooms(vectors(chance, len(keys), size, 31))
		hidden := 1 + chance.IntN(4)
		l := weights.Layer{Gate: matrix(hidden, size, numbers(chance, hidden*size, 20)...), Up: matrix(hidden, size, numbers(chance, hidden*size, 20)...), Down: matrix(size, hidden, numbers(chance, hidden*size, 20)...)}
		var gate []int
		l.Gate.L, gate = inRoom(l.Gate.L, 77)
		before := fmt.Sprint(qRoom, keyRooms, valueRooms, l, gate, keys, values)
		model.Score(q, keys[0])
		model.Score(keys[0], q)
		model.Attend(q, keys, values, heads)
		model.Attend(q, keys, values, size+1)
		model.Feed(q, l)
		if fmt.Sprint(qRoom, keyRooms, valueRooms, l, gate, keys, values) != before {
			t.Fatal("written into")
		}
	}
}

func TestNothingIsWrittenOfTheWhole(t *testing.T) { // R2
	chance := newChance(51)
	for i, c := range someConfigs() {
		for _, span := range []int{one, maxWeight} {
			w, told := roomyModel(made(c, uint64(i), span))
			p, toldPast := roomyPast(pastOf(chance, c, chance.IntN(c.Ctx), 16))
			prompt, promptRoom := inRoom([]int{0}, 1)
			stop, stopRoom := inRoom([]int{-1, -2}, 0)
			before, beforePast := told(), toldPast()
			for _, token := range []int{0, c.Vocab - 1, -1} {
				model.Forward(w, token, p)
			}
			a := model.Ask{Prompt: prompt, K: c.Vocab, Limit: c.Ctx - 1, Stop: stop}
			model.Check(c, a)
			model.Complete(w, a)
			p.Len()
			if told() != before || toldPast() != beforePast {
				t.Errorf("%v: written into", c)
			}
			if !slices.Equal(promptRoom, []int{0, 1, 1, 1, 1, 1}) || !slices.Equal(stopRoom, []int{-1, -2, 0, 0, 0, 0, 0}) {
				t.Errorf("%v: written into what is asked", c)
			}
		}
	}
}

// TestNothingBehindTheLengthIsRead: what stands there makes no difference.
func TestNothingBehindTheLengthIsRead(t *testing.T) { // R2, R3
	w := made(middle, 52, one)
	p, _ := roomyPast(pastOf(newChance(53), middle, 4, 16))
	holdForward(t, w, 2, p)
	holdAttend(t, p.Layers[0].Keys[0], p.Layers[0].Keys, p.Layers[0].Values, 2)
	stop := []int{9, 0, 1, 2, 3, 4, 5, 6}
	a := model.Ask{Prompt: []int{1, 4, -1}[:2], K: 1, Limit: 7, Stop: stop[:1]}
	if l := holdComplete(t, w, a); len(l) != 7 {
		t.Error(l)
	}
}

// scribble writes into all that stands in a list, and into what room it has.
func scribble[T any](l []T, x T) {
	l = l[:cap(l)]
	for i := range l {
		l[i] = x
	}
}

// TestPartsAreTheCallers turns what was answered, and then what was handed in.
func TestPartsAreTheCallers(t *testing.T) { // R2, R3
	chance := newChance(54)
	for _, heads := range []int{1, 2, 4} {
		for many := 1; many < 4; many++ {
			q, keys, values := numbers(chance, 4, 16), vectors(chance, many, 4, 16), vectors(chance, many, 4, 16)
			before := fmt.Sprint(q, keys, values)
			l, e := model.Attend(q, keys, values, heads)
			want := slices.Clone(l)
			scribble(l, 9)
			if fmt.Sprint(q, keys, values) != before || e != api.OK {
				t.Error("what was handed in is turned with what is answered")
			}
			l, _ = model.Attend(q, keys, values, heads)
			for _, v := range slices.Concat([][]int{q}, keys, values) {
				scribble(v, 9)
			}
			if !slices.Equal(l, want) {
				t.Error("what is answered is turned with what was handed in")
			}
		}
	}
	h, y := []int{one, -one}, right()
	l, _ := model.Feed(h, y)
	want := slices.Clone(l)
	scribble(l, 9)
	if fmt.Sprint(h, y) != fmt.Sprint([]int{one, -one}, right()) {
		t.Error("what was handed in is turned with what is answered")
	}
	l, _ = model.Feed(h, y)
	scribble(h, 9)
	scribble(y.Down.L, 9)
	if !slices.Equal(l, want) {
		t.Error("what is answered is turned with what was handed in")
	}
}

func TestEmptyIsTheCallers(t *testing.T) { // R2, R3
	p := model.Empty(middle)
	scribble(p.Layers, model.Cache{Keys: [][]int{{1}}, Values: [][]int{{1}}})
	if p := model.Empty(middle); p.Len() != 0 || len(p.Layers) != 3 {
		t.Error(p)
	}
	// Each layer has lists of its own.
	p = model.Empty(middle)
	for i := range p.Layers {
		p.Layers[i].Keys = append(p.Layers[i].Keys, []int{i})
		p.Layers[i].Values = append(p.Layers[i].Values, []int{-i})
	}
	if fmt.Sprint(p) != "{[{[[0]] [[0]]} {[[1]] [[-1]]} {[[2]] [[-2]]}]}" {
		t.Error(p)
	}
}

// TestForwardIsTheCallers turns each list of what Forward answers, also behind its length: no other one turns with it, nor what was handed in.
func TestForwardIsTheCallers(t *testing.T) { // P11.2, R2, R3
	w := made(middle, 55, one)
	for _, p := range []model.Past{model.Empty(middle), behindTokens(t, w, 1), behindTokens(t, w, 1, 2, 3), pastOf(newChance(56), middle, 4, 16)} {
		handed, wantModel := clonePast(p), fmt.Sprint(w)
		want, _ := told(func() behind { return tellForward(w, 5, p) })
		for i := 0; ; i++ {
			l, next, e := model.Forward(w, 5, p)
			if e != api.OK {
				t.Fatal(int(e))
			}
			all := [][]int{l}
			for _, y := range next.Layers {
				all = slices.Concat(all, y.Keys, y.Values)
			}
			if i == len(all) {
				scribble(next.Layers, model.Cache{})
			} else if i < len(all) {
				scribble(all[i], 99)
			} else {
				break
			}
			wanted := [][]int{want.numbers}
			for _, y := range want.past.Layers {
				wanted = slices.Concat(wanted, y.Keys, y.Values)
			}
			for k := range all {
				if k != i && !slices.Equal(all[k], wanted[k]) {
					t.Fatalf("list %d is turned with list %d", k, i)
				}
			}
			if !samePast(p, handed) || fmt.Sprint(w) != wantModel {
				t.Fatalf("what was handed in is turned with list %d", i)
			}
		}
	}
}

// TestForwardKeepsKeysApart appends to the lists of a past: none stands in another one's room.
func TestForwardKeepsKeysApart(t *testing.T) { // P11.2, R2
	w := made(middle, 57, one)
	p := behindTokens(t, w, 1, 2, 3)
	want := clonePast(p)
	for i := range p.Layers {
		y := p.Layers[i]
		for k := range y.Keys {
			_, _ = append(y.Keys[k], 88), append(y.Values[k], 88)
		}
		_, _ = append(y.Keys, []int{88}), append(y.Values, []int{88})
	}
	_ = append(p.Layers, model.Cache{})
	if !samePast(p, want) {
		t.Error("turned")
	}
}

// TestForwardKeepsNothing turns what was handed in, behind an answer.
func TestForwardKeepsNothing(t *testing.T) { // P11.2, R2, R3
	for _, c := range someConfigs() {
		w := made(c, 58, one/2)
		p := pastOf(newChance(59), c, min(c.Ctx-1, 3), 16)
		want, _ := told(func() behind { return tellForward(w, 0, p) })
		l, next, e := model.Forward(w, 0, p)
		for _, y := range p.Layers {
			for _, v := range slices.Concat(y.Keys, y.Values) {
				scribble(v, 9)
			}
			scribble(y.Keys, nil)
			scribble(y.Values, []int{1, 2})
		}
		scribble(p.Layers, model.Cache{})
		for _, y := range lists(&w) {
			scribble(*y.l, 3)
		}
		if !slices.Equal(l, want.numbers) || !samePast(next, want.past) || e != api.OK {
			t.Errorf("%v: what is answered is turned with what was handed in", c)
		}
	}
}

// TestPastsGoTheirOwnWay has several pasts go on from one, in turns.
func TestPastsGoTheirOwnWay(t *testing.T) { // P11.2, R2
	w := made(middle, 60, one)
	for places := range 4 {
		from := behindTokens(t, w, []int{3, 1, 6}[:places]...)
		kept := clonePast(from)
		ways := make([]model.Past, 7)
		for token := range ways {
			ways[token] = from
		}
		for step := range 4 {
			for token := range ways {
				ways[token], _ = holdForward(t, w, (token+step*token)%7, ways[token])
			}
		}
		for token, p := range ways {
			l := slices.Clone([]int{3, 1, 6}[:places])
			for step := range 4 {
				l = append(l, (token+step*token)%7)
			}
			if !samePast(p, behindTokens(t, w, l...)) {
				t.Errorf("%d places, token %d: another past", places, token)
			}
		}
		if !samePast(from, kept) {
			t.Errorf("%d places: the past that they go on from is turned", places)
		}
	}
}

func TestCompleteIsTheCallers(t *testing.T) { // R2, R3
	w := made(middle, 61, one)
	a := model.Ask{Prompt: []int{1, 4}, Seed: seedOf(3), K: 7, Limit: 7, Stop: []int{9}}
	before := fmt.Sprint(w, a)
	l, e := model.Complete(w, a)
	want := slices.Clone(l)
	scribble(l, 5)
	if fmt.Sprint(w, a) != before || e != api.OK {
		t.Error("what was handed in is turned with what is answered")
	}
	l, _ = model.Complete(w, a)
	scribble(a.Prompt, 9)
	scribble(a.Stop, 9)
	if !slices.Equal(l, want) {
		t.Error("what is answered is turned with what was handed in")
	}
}

// TestErrorsLeaveNoTrace asks what can't be answered between what can.
func TestErrorsLeaveNoTrace(t *testing.T) { // R1, R3
	w := made(middle, 62, one)
	wrong := cloned(w)
	wrong.Out.L[3] = maxWeight + 1
	far := made(middle, 62, maxWeight)
	p := behindTokens(t, w, 2, 5)
	a := model.Ask{Prompt: []int{1, 4}, Seed: seedOf(4), K: 7, Limit: 7}
	for i := range 30 {
		model.Forward(wrong, 1, p)
		model.Forward(far, 1, p)
		model.Forward(w, 7+i, p)
		model.Forward(w, 1, model.Past{Layers: p.Layers[1:]})
		model.Complete(wrong, a)
		model.Complete(far, a)
		model.Complete(w, model.Ask{Prompt: []int{i}, Limit: i, K: 8})
		model.Attend(nil, nil, nil, i)
		model.Score([]int{high, high}, []int{one, one})
		model.Feed([]int{high, high}, right())
		if next, _ := holdForward(t, w, 3, p); next.Len() != 3 {
			t.Error(next.Len())
		}
		holdComplete(t, w, a)
	}
}

// TestSideBySide has one model and one past be asked at once from many places.
func TestSideBySide(t *testing.T) { // R3
	w := made(middle, 63, one)
	p := behindTokens(t, w, 2, 5)
	a := model.Ask{Prompt: []int{1, 4}, Seed: seedOf(5), K: 7, Limit: 7}
	completed := holdComplete(t, w, a)
	var wants []behind
	for token := range 7 {
		wants = append(wants, tellForward(w, token, p))
	}
	var all sync.WaitGroup
	for from := range 8 {
		all.Go(func() {
			for i := range 14 {
				token := (from + i) % 7
				if l, next, e := model.Forward(w, token, p); !slices.Equal(l, wants[token].numbers) || !samePast(next, wants[token].past) || e != api.OK {
					t.Errorf("Forward %d: %v %d", token, l, int(e))
				}
				if l, e := model.Complete(w, a); !slices.Equal(l, completed) || e != api.OK {
					t.Errorf("Complete: %v %d", l, int(e))
				}
			}
		})
	}
	all.Wait()
}

// FuzzAsk holds Check and Complete to what is wanted of any ask.
func FuzzAsk(f *testing.F) { // P11.3, R1, R3
	f.Add(1, 4, 2, 3, 5, byte(1))
	f.Add(-1, 7, 0, 1<<62, -1<<62, byte(0))
	f.Add(6, 0, 7, 7, 0, byte(2))
	w := made(middle, 2, 2*one)
	f.Fuzz(func(t *testing.T, first, last, k, limit, stop int, seed byte) {
		a := model.Ask{Prompt: []int{first, last}, Seed: seedOf(seed), K: k, Limit: limit, Stop: []int{stop}}
		_, want := told(func() int { return tellCheck(middle, a) })
		if e := model.Check(middle, a); e != want {
			t.Errorf("%v: %d, not %d", a, int(e), int(want))
		}
		holdComplete(t, w, a)
	})
}

// FuzzAttend holds Attend and Score to what is wanted of any numbers.
func FuzzAttend(f *testing.F) { // P11.1, R1, R3
	f.Add(one, -one, 5, 7, 1<<31, 3, 2)
	f.Add(1<<30, 1<<30, 1<<30, 1, -1<<31, 0, 1)
	f.Fuzz(func(t *testing.T, a, b, c, d, x, y, heads int) {
		q, keys, values := []int{a, b}, [][]int{{c, d}, {b, a}}, [][]int{{x, y}, {y, c}}
		holdAttend(t, q, keys, values, heads)
		holdScore(t, q, keys[0])
	})
}
