package spaces_test

import (
	"bytes"
	"fmt"
	"slices"
	"strings"
	"testing"

	"tipstaff/api"
	"tipstaff/reply"
	"tipstaff/spaces"
	"tipstaff/store"
	"tipstaff/table"
	"tipstaff/value"
)

const latest = 1 << 40

func text(s string) api.Value { return api.Value{Kind: api.KText, S: s} }

func list(l ...string) api.Value { return api.Value{Kind: api.KList, L: l} }

func set(l ...string) api.Value { return api.Value{Kind: api.KSet, L: l} }

// samples are values of each kind but KNone.
func samples() []api.Value {
	return []api.Value{
		text("x"), text(""), text("7"), list("b", "a", "b"), set("a", "b"),
		{Kind: api.KHash, H: []api.Pair{{Name: "a", Val: "1"}, {Name: "b", Val: "2"}}},
		{Kind: api.KSorted, Z: []api.Mark{{Name: "b", N: 1}, {Name: "a", N: 2}}},
	}
}

// with makes a store at the time 10 whose keys have the texts of their names, and are versions 1.
func with(keys ...string) *store.Store {
	s := store.New()
	s.Tick(10)
	for _, key := range keys {
		s.Put(key, text(key))
	}
	return s
}

// one makes a store with a value of the key k.
func one(v api.Value) *store.Store {
	s := with()
	s.Put("k", v)
	return s
}

// asks holds a reply against the one that is wanted.
func asks(t *testing.T, s *store.Store, want []byte, args ...string) {
	t.Helper()
	if told := spaces.Do(s, args); !bytes.Equal(told, want) {
		t.Errorf("Do of %q tells %q, not %q", args, told, want)
	}
}

// does is asks of words that blanks part.
func does(t *testing.T, s *store.Store, request string, want []byte) {
	t.Helper()
	asks(t, s, want, strings.Split(request, " ")...)
}

// says asks for an Err, with which nothing becomes of any key.
func says(t *testing.T, s *store.Store, request, what string) {
	t.Helper()
	stays(t, s, request, reply.Err(what))
}

// stays is does of what changes nothing.
func stays(t *testing.T, s *store.Store, request string, want []byte) {
	t.Helper()
	before := shown(s)
	does(t, s, request, want)
	if after := shown(s); after != before {
		t.Errorf("%q changes %s into %s", request, before, after)
	}
}

// shown tells all of a store's keys, and of some that may be gone.
func shown(s *store.Store) string {
	keys := s.Keys()
	told := fmt.Sprintf("%d, %d held", s.Now(), s.Held())
	for _, key := range []string{"a", "b", "c", "k", "gone"} {
		if !slices.Contains(keys, key) {
			told += fmt.Sprintf(" %q: none, version %d;", key, s.Version(key))
		}
	}
	for _, key := range keys {
		at, timed := s.Due(key)
		told += fmt.Sprintf(" %q: %v due %d %v, version %d;", key, s.Get(key), at, timed, s.Version(key))
	}
	return told
}

func has(t *testing.T, s *store.Store, key string, want api.Value) {
	t.Helper()
	if v := s.Get(key); !value.Same(v, want) || !value.Right(v) {
		t.Errorf("Get(%q) = %v, not %v", key, v, want)
	}
}

func due(t *testing.T, s *store.Store, key string, want int, on bool) {
	t.Helper()
	if at, timed := s.Due(key); at != want || timed != on {
		t.Errorf("Due(%q) = %d, %v, not %d, %v", key, at, timed, want, on)
	}
}

func version(t *testing.T, s *store.Store, key string, want int) {
	t.Helper()
	if n := s.Version(key); n != want {
		t.Errorf("Version(%q) = %d, not %d", key, n, want)
	}
}

func ok() []byte { return reply.Simple("OK") }

// P16.1: the document's example.
func TestExample(t *testing.T) {
	s := store.New()
	does(t, s, "set a 1 ex 5", ok())
	does(t, s, "ttl a", reply.Int(5))
	does(t, s, "set a 2", ok())
	does(t, s, "ttl a", reply.Int(-1))
}

// P16.1: each command of the layers below is done with what the key has, and that is put.
func TestLayers(t *testing.T) {
	for _, x := range []struct {
		v       api.Value
		request string
		want    api.Value
		told    []byte
	}{
		{text("9"), "get k", text("9"), reply.Bulk("9")},
		{text("9"), "append k 1", text("91"), reply.Int(2)},
		{text("9"), "strlen k", text("9"), reply.Int(1)},
		{text("9"), "incrby k 5", text("14"), reply.Int(14)},
		{text("9"), "incr k", text("10"), reply.Int(10)},
		{text("9"), "getdel k", api.Value{}, reply.Bulk("9")},
		{list("a"), "lpush k b", list("b", "a"), reply.Int(2)},
		{list("a"), "rpush k b", list("a", "b"), reply.Int(2)},
		{list("a", "b"), "lpop k", list("b"), reply.Bulk("a")},
		{list("a", "b"), "rpop k", list("a"), reply.Bulk("b")},
		{list("a"), "lpop k", api.Value{}, reply.Bulk("a")},
		{list("a", "b"), "llen k", list("a", "b"), reply.Int(2)},
		{list("a", "b"), "lrange k 1 1", list("a", "b"), reply.Texts("b")},
		{hash("a", "1"), "hset k a 2", hash("a", "2"), reply.Int(0)},
		{hash("a", "1"), "hget k a", hash("a", "1"), reply.Bulk("1")},
		{hash("a", "1"), "hdel k a", api.Value{}, reply.Int(1)},
		{hash("a", "1"), "hlen k", hash("a", "1"), reply.Int(1)},
		{hash("a", "1"), "hgetall k", hash("a", "1"), reply.Texts("a", "1")},
		{hash("a", "1"), "hincrby k a 4", hash("a", "5"), reply.Int(5)},
		{set("b"), "sadd k a", set("a", "b"), reply.Int(1)},
		{set("a", "b"), "srem k a", set("b"), reply.Int(1)},
		{set("a"), "srem k a", api.Value{}, reply.Int(1)},
		{set("a"), "sismember k a", set("a"), reply.Int(1)},
		{set("a"), "smembers k", set("a"), reply.Texts("a")},
		{set("a"), "scard k", set("a"), reply.Int(1)},
		{marks("a", 1), "zadd k 2 a", marks("a", 2), reply.Int(0)},
		{marks("a", 1), "zrem k a", api.Value{}, reply.Int(1)},
		{marks("a", 1), "zscore k a", marks("a", 1), reply.Bulk("1")},
		{marks("a", 1), "zrange k 0 -1", marks("a", 1), reply.Texts("a")},
		{marks("a", 1), "zcard k", marks("a", 1), reply.Int(1)},
		{marks("a", 1), "zincrby k 3 a", marks("a", 4), reply.Bulk("4")},
		{api.Value{}, "get k", api.Value{}, reply.Null()},
		{api.Value{}, "incr k", text("1"), reply.Int(1)},
		{api.Value{}, "append k ", text(""), reply.Int(0)},
		{api.Value{}, "lpush k a", list("a"), reply.Int(1)},
		{api.Value{}, "hset k a 1", hash("a", "1"), reply.Int(1)},
		{api.Value{}, "sadd k a", set("a"), reply.Int(1)},
		{api.Value{}, "zadd k 1 a", marks("a", 1), reply.Int(1)},
	} {
		for _, request := range []string{x.request, strings.Replace(x.request, x.request[:3], strings.ToUpper(x.request[:3]), 1)} {
			s := one(x.v)
			s.Put("other", text("o"))
			does(t, s, request, x.told)
			has(t, s, "k", x.want)
			has(t, s, "other", text("o"))
		}
	}
}

func hash(name, val string) api.Value {
	return api.Value{Kind: api.KHash, H: []api.Pair{{Name: name, Val: val}}}
}

func marks(name string, n int) api.Value {
	return api.Value{Kind: api.KSorted, Z: []api.Mark{{Name: name, N: n}}}
}

// P16.1: a value that is the same is not put: the version stays. One that is another is put once, and its deadline stays.
func TestLayersPut(t *testing.T) {
	for _, x := range []struct {
		v       api.Value
		request string
		more    int
	}{
		{text("9"), "get k", 0}, {text("9"), "strlen k", 0}, {text("9"), "append k ", 0}, {text("9"), "incrby k 0", 0},
		{text("9"), "incrby k x", 0}, {text("9"), "append k x", 1}, {text("9"), "incr k", 1}, {text("9"), "getdel k", 1},
		{text("x"), "incr k", 0}, {text("9"), "lpush k a", 0}, {api.Value{}, "getdel k", 0}, {api.Value{}, "append k ", 1},
		{list("a", "b"), "lpush k c d", 1}, {list("a"), "lpop k", 1}, {list("a"), "llen k", 0}, {list("a"), "lrange k x 1", 0},
		{api.Value{}, "lpop k", 0}, {api.Value{}, "rpush k a", 1},
		{hash("a", "1"), "hset k a 1", 0}, {hash("a", "1"), "hset k a 2", 1}, {hash("a", "1"), "hdel k b", 0}, {hash("a", "1"), "hincrby k a 0", 0},
		{set("a"), "sadd k a", 0}, {set("a"), "sadd k a b c", 1}, {set("a"), "srem k b", 0}, {set("a"), "srem k a", 1}, {set("a"), "get k", 0},
		{marks("a", 1), "zadd k 1 a", 0}, {marks("a", 1), "zadd k 2 a", 1}, {marks("a", 1), "zincrby k 0 a", 0}, {marks("a", 1), "zrem k b", 0},
	} {
		s := one(x.v)
		s.SetDue("k", 50, true)
		had := s.Version("k")
		spaces.Do(s, strings.Split(x.request, " "))
		if n := s.Version("k"); n != had+x.more {
			t.Errorf("%v: behind %q the version is %d, not %d", x.v, x.request, n, had+x.more)
		}
		if s.Get("k").Kind != api.KNone && x.v.Kind != api.KNone {
			due(t, s, "k", 50, true)
		} else {
			due(t, s, "k", 0, false)
		}
	}
}

// P16.1: of a value of another kind.
func TestLayersWrongType(t *testing.T) {
	for _, v := range samples() {
		for kind, request := range map[uint8]string{api.KText: "get k", api.KList: "lpush k a", api.KHash: "hset k a b", api.KSet: "sadd k a", api.KSorted: "zadd k 1 a"} {
			if kind != v.Kind {
				says(t, one(v), request, api.WrongType)
			}
		}
	}
}

// P16.1: of commands of other ids, of words that are no command, and of requests that do not fit, no bytes, and nothing is done.
func TestOthers(t *testing.T) {
	s := with("a", "b")
	s.SetDue("a", 50, true)
	for id := 43; id < table.Count(); id++ {
		c, _ := table.At(id)
		for _, rest := range []string{"", " a", " a b", " a b c"} {
			stays(t, s, c.Name+rest, nil)
			stays(t, s, strings.ToUpper(c.Name)+rest, nil)
		}
	}
	for _, request := range []string{"", "nix", "nix a", "gets a", "texts a", "get", "get a b", "set a", "mset a", "mset a 1 b", "append a",
		"rename a", "rename a b c", "expire a", "expire a 5 6", "ttl", "ttl a b", "type", "type a b", "persist", "keys", "keys a b", "dbsize a",
		"flushall a", "del", "exists", "mget", "smove a b", "smove a b c d", "lpush a", "zadd a 1", "hset a b"} {
		stays(t, s, request, nil)
	}
	before := shown(s)
	asks(t, s, nil)
	if after := shown(s); after != before {
		t.Errorf("no words change %s into %s", before, after)
	}
}

// P16.1: each command of the ids 0 to 42 tells a reply, in whichever letters.
func TestAll(t *testing.T) {
	for id := range 43 {
		c, _ := table.At(id)
		args := []string{c.Name}
		for len(args) < max(c.Arity, -c.Arity) {
			args = append(args, "1")
		}
		for range 2 {
			s := with("1")
			if _, rest, ok := reply.Take(spaces.Do(s, args)); !ok || len(rest) > 0 {
				t.Errorf("Do of %q tells no reply", args)
			}
			args[0] = strings.ToUpper(args[0])
		}
	}
}

// P16.1: a set puts a text whatever was there, and its deadline is none.
func TestSet(t *testing.T) {
	for _, v := range append(samples(), api.Value{}) {
		for _, word := range []string{"x", "", "7", "nx", "a b\r\n", "\x00\xff"} {
			s := one(v)
			s.SetDue("k", 50, true)
			asks(t, s, ok(), "set", "k", word)
			has(t, s, "k", text(word))
			due(t, s, "k", 0, false)
			does(t, s, "get k", reply.Bulk(word))
		}
	}
	for _, key := range []string{"", "A", "a b", "\x00\r\n"} {
		s := with("a")
		asks(t, s, ok(), "SET", key, "1")
		has(t, s, key, text("1"))
		has(t, s, "a", text("a"))
	}
}

// P16.1: nx asks that the key is not there, xx that it is: else nothing is done.
func TestSetIf(t *testing.T) {
	for _, v := range append(samples(), api.Value{}) {
		for _, option := range []string{"nx", "NX", "nX", "xx", "XX", "xX"} {
			for _, request := range []string{"set k new " + option, "set k new " + option + " ex 5", "set k new Ex 5 " + option} {
				s := one(v)
				s.SetDue("k", 50, true)
				if (v.Kind == api.KNone) != (strings.ToLower(option) == "nx") {
					stays(t, s, request, reply.Null())
					continue
				}
				does(t, s, request, ok())
				has(t, s, "k", text("new"))
				if long := strings.Contains(request, " 5"); long {
					due(t, s, "k", 15, true)
				} else {
					due(t, s, "k", 0, false)
				}
			}
		}
	}
}

// P16.1: ex and a number from 1 to 2^40 make a deadline, so far from now.
func TestSetEx(t *testing.T) {
	for word, n := range map[string]int{"1": 1, "5": 5, "1099511627775": latest - 1, "1099511627776": latest} {
		for _, option := range []string{"ex", "EX", "eX"} {
			for _, start := range []int{0, 1, latest} {
				s := store.New()
				s.Tick(start)
				does(t, s, "set k 1 "+option+" "+word, ok())
				due(t, s, "k", start+n, true)
				does(t, s, "ttl k", reply.Int(n))
			}
		}
	}
	s := with()
	does(t, s, "set k 1 ex 2", ok())
	s.Tick(1)
	has(t, s, "k", text("1"))
	s.Tick(1)
	has(t, s, "k", api.Value{})
}

// P16.1: the first word that is wrong tells what the error says, ahead of whether the key is there; nothing is done.
func TestSetWrong(t *testing.T) {
	for options, what := range map[string]string{
		"foo": api.Syntax, "": api.Syntax, "n": api.Syntax, "nxx": api.Syntax, "px": api.Syntax, "5": api.Syntax, "get": api.Syntax,
		"nx foo": api.Syntax, "nx nx": api.Syntax, "xx xx": api.Syntax, "nx xx": api.Syntax, "xx nx": api.Syntax, "NX xX": api.Syntax,
		"nx ex 5 nx": api.Syntax, "nx ex 5 xx": api.Syntax, "xx ex 5 nx": api.Syntax, "ex 5 nx xx": api.Syntax, "ex 5 xx xx": api.Syntax,
		"ex": api.Syntax, "nx ex": api.Syntax, "xx EX": api.Syntax, "ex 5 ex 5": api.Syntax, "ex 5 EX 6": api.Syntax, "ex 5 ex": api.Syntax,
		"ex 5 ex x": api.Syntax, "ex 5 6": api.Syntax, "ex 5 nx 6": api.Syntax, "nx 5": api.Syntax,
		"foo ex x": api.Syntax, "foo ex 0": api.Syntax, "nx nx ex x": api.Syntax,
		"ex x": api.NotInt, "ex nx": api.NotInt, "ex ex": api.NotInt, "ex ": api.NotInt, "ex +5": api.NotInt, "ex 05": api.NotInt, "ex 5.0": api.NotInt,
		"ex ex 5": api.NotInt, "ex x foo": api.NotInt, "ex x nx nx": api.NotInt, "nx ex x xx": api.NotInt, "ex x ex": api.NotInt, "ex -0": api.NotInt,
		"ex 9223372036854775808": api.NotInt, "ex -9223372036854775809": api.NotInt, "xx ex x": api.NotInt,
		"ex 0": api.BadTime, "ex -1": api.BadTime, "ex 1099511627777": api.BadTime, "ex 9223372036854775807": api.BadTime,
		"ex -9223372036854775808": api.BadTime, "ex -1099511627776": api.BadTime, "ex 0 foo": api.BadTime, "ex 0 ex": api.BadTime, "nx ex 0 nx": api.BadTime,
	} {
		for _, v := range []api.Value{{}, text("1"), set("a")} {
			s := one(v)
			s.SetDue("k", 50, true)
			says(t, s, "set k new "+options, what)
		}
	}
}

// P16.1: a set is a Put and a SetDue, with ex one more, whatever there was.
func TestSetVersions(t *testing.T) {
	for request, more := range map[string]int{"set k x": 2, "set k x xx": 2, "set k x ex 5": 3, "set k x nx": 0, "set k x foo": 0, "mset k x": 2, "mset k x k x": 4} {
		s := one(text("x"))
		does(t, s, request, spaces.Do(one(text("x")), strings.Split(request, " ")))
		version(t, s, "k", 1+more)
	}
	s := with()
	does(t, s, "set k x nx", ok())
	version(t, s, "k", 2)
}

// P16.1: mget tells texts, and Null of all else; mset sets in order.
func TestMany(t *testing.T) {
	s := with("a", "b")
	s.Put("l", list("x"))
	s.Put("s", set("x"))
	s.Put("empty", text(""))
	stays(t, s, "mget a", reply.Array(reply.Bulk("a")))
	stays(t, s, "mget none", reply.Array(reply.Null()))
	stays(t, s, "MGET b none a l s empty a", reply.Array(reply.Bulk("b"), reply.Null(), reply.Bulk("a"), reply.Null(), reply.Null(), reply.Bulk(""), reply.Bulk("a")))

	s.SetDue("a", 50, true)
	s.SetDue("b", 60, true)
	does(t, s, "mset a 1 l 2 new 3", ok())
	for key, word := range map[string]string{"a": "1", "l": "2", "new": "3", "b": "b"} {
		has(t, s, key, text(word))
	}
	due(t, s, "a", 0, false)
	due(t, s, "b", 60, true)
	does(t, s, "MSet a 1 b 2 a 3", ok())
	does(t, s, "mget a b", reply.Array(reply.Bulk("3"), reply.Bulk("2")))
	asks(t, s, ok(), "mset", "", "", "x", "y")
	has(t, s, "", text(""))
	does(t, s, "dbsize", reply.Int(8))
}

// P16.1: smove puts both sets, if it moves anything.
func TestMove(t *testing.T) {
	s := with("t")
	s.Put("a", set("x", "y"))
	s.Put("b", set("y", "z"))
	s.SetDue("a", 50, true)
	stays(t, s, "smove a b z", reply.Int(0))
	stays(t, s, "smove none b z", reply.Int(0))
	stays(t, s, "smove none nor x", reply.Int(0))
	says(t, s, "smove t b z", api.WrongType)
	says(t, s, "smove b t z", api.WrongType)
	says(t, s, "smove none t z", api.WrongType)
	says(t, s, "smove t none z", api.WrongType)

	does(t, s, "smove a b x", reply.Int(1))
	has(t, s, "a", set("y"))
	has(t, s, "b", set("x", "y", "z"))
	due(t, s, "a", 50, true)
	version(t, s, "a", 3)
	version(t, s, "b", 2)
	does(t, s, "SMOVE a b y", reply.Int(1))
	has(t, s, "a", api.Value{})
	due(t, s, "a", 0, false)
	version(t, s, "a", 4)
	has(t, s, "b", set("x", "y", "z"))
	version(t, s, "b", 3)
	does(t, s, "smove b a z", reply.Int(1))
	has(t, s, "a", set("z"))
	due(t, s, "a", 0, false)
	has(t, s, "b", set("x", "y"))
}

// P16.1: of one set and itself the same is told, and nothing is put.
func TestMoveSame(t *testing.T) {
	s := one(set("x"))
	s.Put("t", text("x"))
	stays(t, s, "smove k k x", reply.Int(1))
	stays(t, s, "smove k k y", reply.Int(0))
	stays(t, s, "smove none none x", reply.Int(0))
	says(t, s, "smove t t x", api.WrongType)
	has(t, s, "k", set("x"))
}

// P16.1: del and exists count keys that are there; behind a del a key is not.
func TestDelExists(t *testing.T) {
	s := with("a", "b", "c")
	s.SetDue("a", 50, true)
	stays(t, s, "exists a", reply.Int(1))
	stays(t, s, "exists none", reply.Int(0))
	stays(t, s, "EXISTS a none b a", reply.Int(3))
	stays(t, s, "del none nor", reply.Int(0))
	does(t, s, "del a a none b a", reply.Int(2))
	has(t, s, "a", api.Value{})
	due(t, s, "a", 0, false)
	has(t, s, "b", api.Value{})
	has(t, s, "c", text("c"))
	version(t, s, "a", 3)
	version(t, s, "b", 2)
	version(t, s, "none", 0)
	stays(t, s, "exists a b c", reply.Int(1))
	does(t, s, "Del c", reply.Int(1))
	stays(t, s, "dbsize", reply.Int(0))
	for _, v := range samples() {
		s := one(v)
		stays(t, s, "exists k", reply.Int(1))
		does(t, s, "del k", reply.Int(1))
		stays(t, s, "exists k", reply.Int(0))
	}
}

// P16.1: type tells a value's type.
func TestType(t *testing.T) {
	types := []string{"string", "string", "string", "list", "set", "hash", "zset"}
	for i, v := range samples() {
		stays(t, one(v), "type k", reply.Simple(types[i]))
		stays(t, one(v), "TYPE none", reply.Simple("none"))
	}
	asks(t, with(""), reply.Simple("string"), "type", "")
}

// P16.1: expire sets a deadline, of a key that is there; one that is past is so at once.
func TestExpire(t *testing.T) {
	for _, v := range samples() {
		for word, n := range map[string]int{"1": 1, "5": 5, "1099511627776": latest, "0": 0, "-1": -1, "-1099511627776": -latest} {
			for _, start := range []int{0, 10, latest} {
				s := store.New()
				s.Tick(start)
				stays(t, s, "expire k "+word, reply.Int(0))
				s.Put("k", v)
				does(t, s, "Expire k "+word, reply.Int(1))
				version(t, s, "k", 2)
				if n > 0 {
					has(t, s, "k", v)
					due(t, s, "k", start+n, true)
				} else {
					has(t, s, "k", api.Value{})
					due(t, s, "k", 0, false)
				}
			}
		}
	}
}

// P16.1: an expire that is wrong tells so whether the key is there or not.
func TestExpireWrong(t *testing.T) {
	for word, what := range map[string]string{
		"x": api.NotInt, "": api.NotInt, "+1": api.NotInt, "01": api.NotInt, "-0": api.NotInt, "1.5": api.NotInt, "nx": api.NotInt, "9223372036854775808": api.NotInt,
		"1099511627777": api.BadTime, "-1099511627777": api.BadTime, "9223372036854775807": api.BadTime, "-9223372036854775808": api.BadTime,
	} {
		s := with("a")
		s.SetDue("a", 50, true)
		says(t, s, "expire a "+word, what)
		says(t, s, "expire none "+word, what)
	}
}

// P16.1: ttl tells how long a key has yet, persist takes its deadline away.
func TestTTLPersist(t *testing.T) {
	s := with("a", "b")
	stays(t, s, "ttl none", reply.Int(-2))
	stays(t, s, "ttl a", reply.Int(-1))
	stays(t, s, "persist a", reply.Int(0))
	stays(t, s, "persist none", reply.Int(0))
	does(t, s, "expire a 7", reply.Int(1))
	stays(t, s, "TTL a", reply.Int(7))
	s.Tick(3)
	stays(t, s, "ttl a", reply.Int(4))
	s.Tick(3)
	stays(t, s, "ttl a", reply.Int(1))
	does(t, s, "Persist a", reply.Int(1))
	version(t, s, "a", 3)
	due(t, s, "a", 0, false)
	stays(t, s, "ttl a", reply.Int(-1))
	stays(t, s, "persist a", reply.Int(0))
	s.Tick(100)
	has(t, s, "a", text("a"))
	does(t, s, "expire a 2", reply.Int(1))
	s.Tick(2)
	does(t, s, "ttl a", reply.Int(-2))
	stays(t, s, "persist a", reply.Int(0))
}

// P16.1: rename puts what a key had, with its deadline or none, in place of all that another one had.
func TestRename(t *testing.T) {
	for _, v := range samples() {
		for _, there := range []bool{false, true} {
			for _, timed := range []int{0, 40} {
				s := one(v)
				if there {
					s.Put("to", list("old"))
					s.SetDue("to", 90, true)
				}
				s.SetDue("k", timed, timed > 0)
				was, had := s.Version("k"), s.Version("to")
				does(t, s, "rename k to", ok())
				has(t, s, "k", api.Value{})
				due(t, s, "k", 0, false)
				has(t, s, "to", v)
				due(t, s, "to", timed, timed > 0)
				version(t, s, "k", was+1)
				version(t, s, "to", had+2)
			}
		}
	}
}

// P16.1: rename of a key that is not there, and of one to itself.
func TestRenameNone(t *testing.T) {
	s := with("a", "b")
	s.SetDue("a", 50, true)
	says(t, s, "rename none a", api.NoKey)
	says(t, s, "RENAME none none", api.NoKey)
	says(t, s, "rename none nor", api.NoKey)
	stays(t, s, "Rename a a", ok())
	stays(t, s, "rename b b", ok())
	does(t, s, "rename a b", ok())
	says(t, s, "rename a b", api.NoKey)
	asks(t, s, ok(), "rename", "b", "")
	asks(t, s, reply.Texts(""), "keys", "*")
}

// P16.1: keys are those that the pattern fits, in order; dbsize is how many there are in all.
func TestKeys(t *testing.T) {
	s := with("b", "ab", "a", "", "A", "a*", "\xff", "zz")
	s.Put("l", list("x"))
	s.SetDue("zz", 20, true)
	for pat, want := range map[string][]string{
		"*":     {"", "A", "a", "a*", "ab", "b", "l", "zz", "\xff"},
		"a*":    {"a", "a*", "ab"},
		"a\\*":  {"a*"},
		"?":     {"A", "a", "b", "l", "\xff"},
		"[a-b]": {"a", "b"},
		"a":     {"a"},
		"none":  {},
		"":      {""},
	} {
		before := shown(s)
		asks(t, s, reply.Texts(want...), "keys", pat)
		asks(t, s, reply.Texts(want...), "KEYS", pat)
		if after := shown(s); after != before {
			t.Errorf("keys %q changes %s into %s", pat, before, after)
		}
	}
	stays(t, s, "dbsize", reply.Int(9))
	s.Tick(10)
	does(t, s, "keys zz", reply.Texts())
	does(t, s, "DBSIZE", reply.Int(8))
	does(t, with(), "keys *", reply.Texts())
	does(t, with(), "dbsize", reply.Int(0))
}

// P16.1: flushall takes away all keys.
func TestFlushAll(t *testing.T) {
	s := with("a", "b", "c")
	s.Put("l", list("x"))
	s.SetDue("a", 50, true)
	s.SetDue("c", 20, true)
	s.Tick(10)
	does(t, s, "flushall", ok())
	for key, n := range map[string]int{"a": 3, "b": 2, "c": 3, "l": 2} {
		version(t, s, key, n)
	}
	if s.Held() != 1 {
		t.Errorf("Held is %d: what was gone by a tick is no key", s.Held())
	}
	does(t, s, "dbsize", reply.Int(0))
	for _, key := range []string{"a", "b", "c", "l"} {
		has(t, s, key, api.Value{})
		due(t, s, key, 0, false)
	}
	stays(t, s, "FlushAll", ok())
	if s.Now() != 20 {
		t.Errorf("Now is %d", s.Now())
	}
	does(t, s, "set a 1", ok())
	does(t, s, "ttl a", reply.Int(-1))
}

// P16.1: what is told, and the words, are not what is kept.
func TestOwn(t *testing.T) {
	s := with()
	args := []string{"rpush", "k", "a", "b"}
	spaces.Do(s, args)
	if !slices.Equal(args, []string{"rpush", "k", "a", "b"}) {
		t.Errorf("the words are %q", args)
	}
	args[2] = "spoilt"
	has(t, s, "k", list("a", "b"))
	told := spaces.Do(s, []string{"lrange", "k", "0", "-1"})
	clear(told)
	does(t, s, "lrange k 0 -1", reply.Texts("a", "b"))
	for _, request := range []string{"mset k a l b", "rename k l", "smove x y z", "del a b"} {
		args := strings.Split(request, " ")
		clear(spaces.Do(s, args))
		if strings.Join(args, " ") != request {
			t.Errorf("%q became %q", request, args)
		}
	}
}
