package spaces

import (
	"bytes"

	"tipstaff/api"
	"tipstaff/num"
	"tipstaff/reply"
	"tipstaff/sets"
	"tipstaff/store"
)

// options are what a set's words from the fourth on ask for.
type options struct {
	nx, xx, ex bool
	span       int // with ex
}

// choose tells what the reply's error says, if a word is wrong, and else nothing.
func choose(words ...string) (options, string) {
	var o options
	for at := 0; at < len(words); at++ {
		once := !o.nx && !o.xx
		switch word := num.Lower(words[at]); {
		case word == "nx" && once:
			o.nx = true
		case word == "xx" && once:
			o.xx = true
		case word == "ex" && !o.ex && at+1 < len(words):
			at++
			n, wrong := span(words[at], 1)
			if wrong != "" {
				return options{}, wrong
			}
			o.ex, o.span = true, n
		default:
			return options{}, api.Syntax
		}
	}
	return o, ""
}

// set asks whether the key is there only with an option that hangs on it: without one it does not read the key.
func set(s *store.Store, words ...string) []byte {
	key := words[0]
	o, wrong := choose(words[2:]...)
	if wrong != "" {
		return reply.Err(wrong)
	}
	if o.nx && there(s, key) || o.xx && !there(s, key) {
		return reply.Null()
	}
	put(s, key, words[1])
	if o.ex {
		s.SetDue(key, s.Now()+o.span, true)
	}
	return reply.Simple("OK")
}

// put takes the deadline away, too, which a Put would leave.
func put(s *store.Store, key, text string) {
	s.Put(key, api.Value{Kind: api.KText, S: text})
	s.SetDue(key, 0, false)
}

func setMany(s *store.Store, words ...string) []byte {
	for at := 1; at < len(words); at += 2 {
		put(s, words[at-1], words[at])
	}
	return reply.Simple("OK")
}

func getMany(s *store.Store, keys ...string) []byte {
	told := make([][]byte, 0, len(keys))
	for _, key := range keys {
		if v := s.Get(key); v.Kind == api.KText {
			told = append(told, reply.Bulk(v.S))
		} else {
			told = append(told, reply.Null())
		}
	}
	return reply.Array(told...)
}

// move puts nothing if a set is both the one and the other: what it would have less, it has.
func move(s *store.Store, words ...string) []byte {
	from, to := words[0], words[1]
	less, more, told := sets.Move(s.Get(from), s.Get(to), words[2])
	if from != to && bytes.Equal(told, reply.Int(1)) {
		s.Put(from, less)
		s.Put(to, more)
	}
	return told
}
