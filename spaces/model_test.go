package spaces_test

import (
	"bytes"
	"math/rand"
	"slices"
	"strings"
	"testing"

	"tipstaff/api"
	"tipstaff/spaces"
	"tipstaff/store"
	"tipstaff/uses"
	"tipstaff/value"
)

var keys = []string{"a", "b", "c", "k"}

// pick is one of a row.
func pick(chance *rand.Rand, row ...string) string { return row[chance.Intn(len(row))] }

// request is a request that fits, or that may be wrong in its options and numbers alone.
func request(chance *rand.Rand) []string {
	shapes := []string{
		"get K", "set K W", "set K W O", "set K W O O", "set K W ex N", "set K W O ex N", "append K W", "strlen K", "incrby K N", "incr K", "getdel K",
		"mget K", "mget K K K", "mset K W", "mset K W K W", "lpush K W W", "rpush K W", "lpop K", "rpop K", "llen K", "lrange K N N",
		"hset K W W", "hget K W", "hdel K W W", "hlen K", "hgetall K", "hincrby K W N",
		"sadd K W W W", "sadd K W", "srem K W", "sismember K W", "smembers K", "scard K", "smove K K W", "smove K K W", "smove K K W",
		"zadd K N W", "zrem K W", "zscore K W", "zrange K N N", "zcard K", "zincrby K N W",
		"del K", "del K K", "exists K K", "type K", "expire K N", "expire K N", "ttl K", "persist K", "rename K K", "rename K K", "keys P", "dbsize", "flushall",
	}
	args := strings.Fields(pick(chance, shapes...))
	for i := range args {
		switch args[i] {
		case "K":
			args[i] = pick(chance, keys...)
		case "W":
			args[i] = pick(chance, "1", "x", "y", "")
		case "N":
			args[i] = pick(chance, "1", "2", "3", "7", "0", "-1", "x", "1099511627777")
		case "O":
			args[i] = pick(chance, "nx", "xx", "NX", "ex", "5", "foo")
		case "P":
			args[i] = pick(chance, "*", "a", "[ab]", "?", "x*")
		}
	}
	return args
}

// filled is a store with some keys, of all kinds, some with deadlines, some gone by a tick.
func filled(chance *rand.Rand) *store.Store {
	s := store.New()
	for _, key := range keys {
		refill(chance, s, key)
	}
	s.Tick(chance.Intn(3))
	return s
}

func refill(chance *rand.Rand, s *store.Store, key string) {
	s.Put(key, append(samples(), api.Value{}, set("x"), set("1", "x"))[chance.Intn(10)])
	if chance.Intn(2) == 0 {
		s.SetDue(key, s.Now()+chance.Intn(4), true)
	}
}

// copied is a store that has what s has of some keys; of the others it is as chance has it.
func copied(chance *rand.Rand, s *store.Store, alike []string) *store.Store {
	o := store.New()
	o.Tick(s.Now())
	for _, key := range keys {
		if !slices.Contains(alike, key) {
			refill(chance, o, key)
			continue
		}
		o.Put(key, s.Get(key))
		at, timed := s.Due(key)
		o.SetDue(key, at, timed)
	}
	return o
}

func alike(s, o *store.Store, key string) bool {
	at, timed := s.Due(key)
	n, on := o.Due(key)
	return at == n && timed == on && value.Same(s.Get(key), o.Get(key))
}

// P16.2: no key changes but those that are written.
func TestWritesAlone(t *testing.T) {
	for seed := range int64(20000) {
		chance := rand.New(rand.NewSource(seed))
		s, args := filled(chance), request(chance)
		need, err := uses.Of(args)
		if err != api.OK {
			t.Fatalf("%q does not fit", args)
		}
		versions := map[string]int{}
		for _, key := range keys {
			versions[key] = s.Version(key)
		}
		was := copied(chance, s, keys)
		spaces.Do(s, args)
		for _, key := range keys {
			if need.AllW || slices.Contains(uses.Writes(need), key) {
				continue
			}
			if !alike(s, was, key) || s.Version(key) != versions[key] {
				t.Fatalf("%q changes %q", args, key)
			}
		}
	}
}

// P16.2: a reply, and what becomes of the keys that are written, is the same whatever the keys have that are not read.
func TestReadsAlone(t *testing.T) {
	for seed := range int64(20000) {
		chance := rand.New(rand.NewSource(seed))
		s, args := filled(chance), request(chance)
		need, _ := uses.Of(args)
		read := uses.Reads(need)
		if need.AllR || need.AllW {
			continue
		}
		o := copied(chance, s, read)
		before, other := versionsOf(s), versionsOf(o)
		was, had := copied(chance, s, keys), copied(chance, o, keys)
		one, two := spaces.Do(s, args), spaces.Do(o, args)
		if !bytes.Equal(one, two) {
			t.Fatalf("%q tells %q, or %q by what it does not read", args, one, two)
		}
		for _, key := range uses.Writes(need) {
			if s.Version(key)-before[key] != o.Version(key)-other[key] {
				t.Fatalf("%q: how often %q changes hangs on what is not read", args, key)
			}
			// What is not changed is as it was, and so as unlike as it was.
			if !alike(s, o, key) && !(alike(s, was, key) && alike(o, had, key)) {
				t.Fatalf("%q: what becomes of %q hangs on what is not read", args, key)
			}
		}
	}
}

func versionsOf(s *store.Store) map[string]int {
	m := map[string]int{}
	for _, key := range keys {
		m[key] = s.Version(key)
	}
	return m
}

// P16.2: a key that a tick ended, and that is not needed, is held yet.
func TestHeld(t *testing.T) {
	for _, args := range []string{"get a", "set a 1", "set a 1 nx", "mset a 1", "mget a b", "smove a b x", "del a b", "exists a", "type a", "expire a 5",
		"ttl a", "persist a", "rename a b", "rename b a", "keys *", "dbsize", "flushall"} {
		s := with("a", "b", "k")
		s.SetDue("k", 20, true)
		s.Tick(10)
		spaces.Do(s, strings.Split(args, " "))
		if many := s.Purge(); many != 1 {
			t.Errorf("behind %q %d are held", args, many)
		}
	}
}
