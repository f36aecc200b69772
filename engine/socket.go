package engine

import "turnstile/api"

// socket keeps the bytes that have come in and that nobody has read.
type socket struct {
	waiting []byte
}

// receive lets a byte wait; it is lost, if as many wait as may.
func (s *socket) receive(b byte) {
	if len(s.waiting) < api.MaxWaiting {
		s.waiting = append(s.waiting, b)
	}
}
