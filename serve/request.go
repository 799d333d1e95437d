package serve

import (
	"slices"

	"cupel/api"
	"cupel/draw"
	"cupel/model"
)

// request is what is asked for, and how far it is.
type request struct {
	state int
	ask   model.Ask
	// need is how many pages it may come to hold.
	need   int
	came   []int
	stream *draw.Stream
	// row is the pool's, while it runs.
	row       int
	preempted int
	// wrong is the error with which it is ended.
	wrong api.Errno
}

// tokens is its prompt, and what came.
func (r *request) tokens() []int { return slices.Concat(r.ask.Prompt, r.came) }

// next has the next token come, out of a number for each one.
func (r *request) next(numbers []int) api.Errno {
	token, e := r.stream.Pick(numbers, r.ask.K)
	if e == api.OK {
		r.came = append(r.came, token)
	}
	return e
}

// isDone tells, behind a token that came, whether that was the last one.
func (r *request) isDone() bool {
	last := r.came[len(r.came)-1]
	return len(r.came) == r.ask.Limit || slices.Contains(r.ask.Stop, last)
}

// admit has a request run, with a row that begins as far as it can with what is there already.
func (s *Server) admit(r *request) {
	if !s.enter() {
		return
	}
	like, many := s.furthest(r)
	// There are fewer rows in all than the pool opens: of each request no more than MaxPreempt and one.
	if many > 0 {
		r.row, _ = s.pool.Share(like.row, many)
	} else {
		r.row, _ = s.pool.Open()
	}
	r.state = Running
}

// furthest is the one that runs whose row agrees the furthest with a request's tokens, and how far.
func (s *Server) furthest(r *request) (*request, int) {
	tokens := r.tokens()
	// What comes behind the last token is asked for by going through the model with it.
	ahead := tokens[:len(tokens)-1]
	var like *request
	many := 0
	for _, id := range s.running() {
		other := s.requests[id]
		if n := agree(ahead, other.tokens()[:s.places(other)]); n > many {
			like, many = other, n
		}
	}
	return like, many
}

// agree is how many tokens two rows of them begin with alike.
func agree(a, b []int) int {
	n := 0
	for n < len(a) && n < len(b) && a[n] == b[n] {
		n++
	}
	return n
}

// advance takes a request's token at the next place of its row through the model.
func (s *Server) advance(r *request) {
	tokens, at := r.tokens(), s.places(r)
	numbers, past, e := model.Forward(s.model, tokens[at], s.past(r))
	if e == api.OK {
		e = s.pool.Append(r.row, newest(past))
	}
	isLast := at == len(tokens)-1
	if e == api.OK && isLast {
		e = r.next(numbers)
	}
	if e != api.OK || isLast && r.isDone() {
		s.end(r, e)
	}
}

// past is what a request's row has, as the model asks for it.
func (s *Server) past(r *request) model.Past {
	past := model.Empty(s.model.Config)
	for x := range s.pool.All(r.row) {
		for i := range past.Layers {
			layer := &past.Layers[i]
			layer.Keys = append(layer.Keys, x.keys[i])
			layer.Values = append(layer.Values, x.values[i])
		}
	}
	return past
}

// newest is the last place of a past that has one.
func newest(past model.Past) place {
	at := past.Len() - 1
	var x place
	for _, layer := range past.Layers {
		x.keys = append(x.keys, layer.Keys[at])
		x.values = append(x.values, layer.Values[at])
	}
	return x
}

// preempt has a request wait again; what came stays.
func (s *Server) preempt(r *request) {
	s.leave(r)
	r.state = Waiting
	r.preempted++
}

// end ends a request; nothing is kept of it but what it is ended with.
func (s *Server) end(r *request, wrong api.Errno) {
	if r.state == Running {
		s.leave(r)
	}
	ended := request{state: Ended, wrong: wrong}
	if wrong == api.OK {
		ended.came = r.came
	}
	*r = ended
}

// places is how many places the row of one that runs has.
func (s *Server) places(r *request) int {
	n, _ := s.pool.Len(r.row) // it is open
	return n
}

// enter takes a place among those that run, if there is one.
func (s *Server) enter() bool {
	select {
	case s.batch <- struct{}{}:
		return true
	default:
		return false
	}
}

// leave gives up what one that runs has: its row, and its place.
func (s *Server) leave(r *request) {
	s.pool.Close(r.row)
	select {
	case <-s.batch:
	default:
	}
}
