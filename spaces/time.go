package spaces

import (
	"tipstaff/api"
	"tipstaff/num"
	"tipstaff/reply"
	"tipstaff/store"
)

// longest is as far as a deadline lies from now on at most.
const longest = 1 << 40

// span reads how far that is: if the word is wrong, it tells what the reply's error says, and else nothing.
func span(word string, least int) (int, string) {
	n, ok := num.Parse(word)
	if !ok {
		return 0, api.NotInt
	}
	if n < least || n > longest {
		return 0, api.BadTime
	}
	return n, ""
}

func expire(s *store.Store, words ...string) []byte {
	n, wrong := span(words[1], -longest)
	if wrong != "" {
		return reply.Err(wrong)
	}
	if !s.SetDue(words[0], s.Now()+n, true) {
		return reply.Int(0)
	}
	return reply.Int(1)
}

// left is how long a key has yet.
func left(s *store.Store, words ...string) []byte {
	if !there(s, words[0]) {
		return reply.Int(-2)
	}
	at, timed := s.Due(words[0])
	if !timed {
		return reply.Int(-1)
	}
	return reply.Int(at - s.Now())
}

func persist(s *store.Store, words ...string) []byte {
	if _, timed := s.Due(words[0]); !timed {
		return reply.Int(0)
	}
	s.SetDue(words[0], 0, false)
	return reply.Int(1)
}
