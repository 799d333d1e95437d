package serve

import "cupel/api"

// kind is of which requests an act of one kind may be done, and how it is done.
type kind struct {
	may func(s *Server) []int
	do  func(s *Server, r *request)
}

// kinds is all kinds, at their numbers.
func kinds() [Preempt + 1]kind {
	return [...]kind{
		Admit:   {(*Server).admissible, (*Server).admit},
		Advance: {(*Server).running, (*Server).advance},
		Preempt: {(*Server).preemptible, (*Server).preempt},
	}
}

// Acts is what may be done next.
func (s *Server) Acts() []Act {
	if s == nil {
		return nil
	}
	var acts []Act
	for n := Admit; n <= Preempt; n++ {
		for _, id := range kinds()[n].may(s) {
			acts = append(acts, Act{n, id})
		}
	}
	return acts
}

// Step does one of these acts.
func (s *Server) Step(by int) (Act, api.Errno) {
	if s == nil {
		return Act{}, api.ErrNil
	}
	acts := s.Acts()
	if len(acts) == 0 {
		return Act{}, api.ErrNone
	}
	at := by % len(acts)
	if at < 0 {
		at += len(acts)
	}
	act := acts[at]
	kinds()[act.Kind].do(s, s.requests[act.ID])
	return act, api.OK
}

// Drive does acts up to none may be done, and tells how many these were.
func (s *Server) Drive(picks ...int) (int, api.Errno) {
	if s == nil {
		return 0, api.ErrNil
	}
	if len(picks) == 0 {
		picks = []int{0}
	}
	many := 0
driving:
	for {
		for _, by := range picks {
			if _, e := s.Step(by); e != api.OK {
				break driving
			}
			many++
		}
	}
	return many, api.OK
}

// admissible is the first one that waits, if there is a place and there are pages for it.
func (s *Server) admissible() []int {
	waiting := s.those(Waiting)
	if len(waiting) == 0 || len(s.batch) == cap(s.batch) {
		return nil
	}
	first := waiting[:1]
	pages := 0
	for _, id := range append(s.running(), first...) {
		pages += s.requests[id].need
	}
	if pages > s.limits.Pages {
		return nil
	}
	return first
}

// running is those that run.
func (s *Server) running() []int { return s.those(Running) }

// preemptible is those that run, and may be preempted once more.
func (s *Server) preemptible() []int {
	var ids []int
	for _, id := range s.running() {
		if s.requests[id].preempted < MaxPreempt {
			ids = append(ids, id)
		}
	}
	return ids
}
