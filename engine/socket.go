package engine

import (
	"slices"

	"turnstile/api"
	"turnstile/cells"
)

// socket has either bytes that nobody has read, or tasks that wait for one.
type socket struct {
	waiting []byte
	readers line
}

// receive hands a byte to the task that has waited longest; if none does, the byte waits, or is lost, if as many wait as may.
func (s *socket) receive(b byte) {
	switch {
	case !s.readers.empty():
		s.readers.first().left(cells.Number(int64(b)))
	case len(s.waiting) < api.MaxWaiting:
		s.waiting = append(s.waiting, b)
	}
}

// take gives the first byte that waits; false, if none does.
func (s *socket) take() (byte, bool) {
	if len(s.waiting) == 0 {
		return 0, false
	}
	b := s.waiting[0]
	s.waiting = slices.Delete(s.waiting, 0, 1)
	return b, true
}

// socket finds the socket of a number; false, if there is none.
func (e *Engine) socket(n int64) (*socket, bool) {
	if n < 0 || n >= api.Sockets {
		return nil, false
	}
	return &e.sockets[n], true
}

// receive lets the bytes come in.
func (e *Engine) receive(in []api.Input) {
	for _, i := range in {
		if s, ok := e.socket(int64(i.Socket)); ok {
			s.receive(i.Byte)
		}
	}
}
