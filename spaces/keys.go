package spaces

import (
	"tipstaff/api"
	"tipstaff/glob"
	"tipstaff/reply"
	"tipstaff/store"
	"tipstaff/value"
)

func there(s *store.Store, key string) bool { return s.Get(key).Kind != api.KNone }

func drop(s *store.Store, key string) { s.Put(key, api.Value{}) }

func del(s *store.Store, keys ...string) []byte {
	were := 0
	for _, key := range keys {
		if there(s, key) {
			drop(s, key)
			were++
		}
	}
	return reply.Int(were)
}

func exists(s *store.Store, keys ...string) []byte {
	are := 0
	for _, key := range keys {
		if there(s, key) {
			are++
		}
	}
	return reply.Int(are)
}

func kind(s *store.Store, words ...string) []byte {
	return reply.Simple(value.Type(s.Get(words[0])))
}

// rename asks for the deadline ahead of dropping the key, as that goes with it.
func rename(s *store.Store, words ...string) []byte {
	from, to := words[0], words[1]
	v := s.Get(from)
	if v.Kind == api.KNone {
		return reply.Err(api.NoKey)
	}
	if from != to {
		at, timed := s.Due(from)
		drop(s, from)
		s.Put(to, v)
		s.SetDue(to, at, timed)
	}
	return reply.Simple("OK")
}

func names(s *store.Store, words ...string) []byte {
	var fit []string
	for _, key := range s.Keys() {
		if glob.Match(words[0], key) {
			fit = append(fit, key)
		}
	}
	return reply.Texts(fit...)
}

func count(s *store.Store, _ ...string) []byte { return reply.Int(len(s.Keys())) }

func flush(s *store.Store, _ ...string) []byte {
	for _, key := range s.Keys() {
		drop(s, key)
	}
	return reply.Simple("OK")
}
