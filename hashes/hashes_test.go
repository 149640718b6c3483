package hashes_test

import (
	"maps"
	"math/rand"
	"slices"
	"strconv"
	"strings"
	"testing"

	"tipstaff/api"
	"tipstaff/hashes"
	"tipstaff/reply"
	"tipstaff/table"
	"tipstaff/value"
)

const (
	greatest = "9223372036854775807"
	least    = "-9223372036854775808"
)

// hash is a value of names and what they have, one behind the other.
func hash(l ...string) api.Value {
	var v api.Value
	for i := 0; i+1 < len(l); i += 2 {
		v.Kind = api.KHash
		v.H = append(v.H, api.Pair{Name: l[i], Val: l[i+1]})
	}
	return v
}

// others are values of each kind but a hash's and none's.
func others() []api.Value {
	return []api.Value{
		{Kind: api.KText, S: "1"},
		{Kind: api.KText},
		{Kind: api.KList, L: []string{"1", "0"}},
		{Kind: api.KSet, L: []string{"0", "1"}},
		{Kind: api.KSorted, Z: []api.Mark{{Name: "a", N: 1}}},
	}
}

// named are requests that fit, of each command of the layer.
func named() []string {
	return []string{
		"hset k a 7", "hset k b 7", "hset k c x", "hget k a", "hget k x", "hdel k a", "hdel k a x a c", "hdel k x",
		"hlen k", "hgetall k", "hincrby k a 5", "hincrby k d 5", "hincrby k a x", "hincrby k a " + greatest,
	}
}

// does asks for what a request makes of v, and tells.
func does(t *testing.T, v api.Value, args []string, want api.Value, told []byte) {
	t.Helper()
	w, b := hashes.Do(v, args)
	if !value.Same(w, want) || string(b) != string(told) {
		t.Errorf("Do(%v, %q) = %v, %q, not %v, %q", v, args, w, b, want, told)
	}
	if !value.Right(w) {
		t.Errorf("Do(%v, %q) = %v, which may not be", v, args, w)
	}
}

// asked is does of words that blanks part.
func asked(t *testing.T, v api.Value, request string, want api.Value, told []byte) {
	t.Helper()
	does(t, v, strings.Split(request, " "), want, told)
}

// stays asks for an Err, with which v is as it was.
func stays(t *testing.T, v api.Value, request, says string) {
	t.Helper()
	asked(t, v, request, v, reply.Err(says))
}

// P13.1: of commands that are not named, v, and no bytes.
func TestUnnamed(t *testing.T) {
	values := append(others(), api.Value{}, hash("a", "1"), hash("", "", "a", "1"))
	ours := []string{"hset", "hget", "hdel", "hlen", "hgetall", "hincrby"}
	names := []string{"", "nix", "hsetnx", "hse", "set", "hexists", "hlen ", " hlen", "hincr", "hkeys"}
	for id := range table.Count() {
		c, _ := table.At(id)
		if !slices.Contains(ours, c.Name) {
			names = append(names, c.Name, strings.ToUpper(c.Name))
		}
	}
	for _, v := range values {
		for _, name := range names {
			does(t, v, []string{name, "k", "a", "2"}, v, nil)
			does(t, v, []string{name}, v, nil)
		}
	}
}

// P13.1: a value that is neither none nor a hash is told ahead of all else, and stays.
func TestWrongType(t *testing.T) {
	for _, v := range others() {
		for _, request := range named() {
			stays(t, v, request, api.WrongType)
		}
	}
}

// P13.1: hset writes over the Val of a Name that is there, and tells 0.
func TestHsetOver(t *testing.T) {
	v := hash("a", "1", "b", "2", "c", "3")
	asked(t, v, "hset k a x", hash("a", "x", "b", "2", "c", "3"), reply.Int(0))
	asked(t, v, "hset k b x", hash("a", "1", "b", "x", "c", "3"), reply.Int(0))
	asked(t, v, "hset k c x", hash("a", "1", "b", "2", "c", "x"), reply.Int(0))
	asked(t, v, "hset k b 2", v, reply.Int(0))
	asked(t, v, "hset k b ", hash("a", "1", "b", "", "c", "3"), reply.Int(0))
	asked(t, hash("", "1"), "hset k  2", hash("", "2"), reply.Int(0))
	asked(t, hash("b", ""), "hset k b 1", hash("b", "1"), reply.Int(0))
}

// P13.1: hset puts a Name that is not there at its place, and tells 1.
func TestHsetAnew(t *testing.T) {
	asked(t, hash(), "hset k b 1", hash("b", "1"), reply.Int(1))
	v := hash("b", "1", "d", "2")
	asked(t, v, "hset k a x", hash("a", "x", "b", "1", "d", "2"), reply.Int(1))
	asked(t, v, "hset k c x", hash("b", "1", "c", "x", "d", "2"), reply.Int(1))
	asked(t, v, "hset k e x", hash("b", "1", "d", "2", "e", "x"), reply.Int(1))
	asked(t, v, "hset k  x", hash("", "x", "b", "1", "d", "2"), reply.Int(1))
	// The shorter stands ahead where one begins with the other, and large letters ahead of small ones.
	asked(t, v, "hset k ba x", hash("b", "1", "ba", "x", "d", "2"), reply.Int(1))
	asked(t, v, "hset k B x", hash("B", "x", "b", "1", "d", "2"), reply.Int(1))
	asked(t, v, "hset k 10 x", hash("10", "x", "b", "1", "d", "2"), reply.Int(1))
	does(t, v, []string{"hset", "k", "\xff\r\n", "\x00\xff\r\n"}, hash("b", "1", "d", "2", "\xff\r\n", "\x00\xff\r\n"), reply.Int(1))
	does(t, hash(), []string{"hset", "k", "", ""}, hash("", ""), reply.Int(1))
}

// P13.1: hget tells the Val of a Name, null of one that is not there, and changes nothing.
func TestHget(t *testing.T) {
	v := hash("", "0", "a", "1", "b", "", "c", "\r\n\xff")
	for name, val := range map[string]string{"": "0", "a": "1", "b": "", "c": "\r\n\xff"} {
		asked(t, v, "hget k "+name, v, reply.Bulk(val))
	}
	for _, name := range []string{"0", "1", "A", "aa", "a\x00", "d", "k", "\r\n\xff", "hget"} {
		asked(t, v, "hget k "+name, v, reply.Null())
		asked(t, hash(), "hget k "+name, hash(), reply.Null())
	}
	asked(t, hash("a", "1"), "hget k ", hash("a", "1"), reply.Null())
	asked(t, hash(), "hget k ", hash(), reply.Null())
}

// P13.1: hdel takes out the pair of each Name that is there, and tells how many were.
func TestHdel(t *testing.T) {
	v := hash("a", "1", "b", "2", "c", "3")
	asked(t, v, "hdel k a", hash("b", "2", "c", "3"), reply.Int(1))
	asked(t, v, "hdel k b", hash("a", "1", "c", "3"), reply.Int(1))
	asked(t, v, "hdel k c", hash("a", "1", "b", "2"), reply.Int(1))
	asked(t, v, "hdel k c a", hash("b", "2"), reply.Int(2))
	asked(t, v, "hdel k x", v, reply.Int(0))
	asked(t, v, "hdel k 1 A k ", v, reply.Int(0))
	asked(t, v, "hdel k x b y", hash("a", "1", "c", "3"), reply.Int(1))
	asked(t, v, "hdel k b b b", hash("a", "1", "c", "3"), reply.Int(1))
	asked(t, hash("", "1", "a", ""), "hdel k ", hash("a", ""), reply.Int(1))
	asked(t, hash("", "1", "a", ""), "hdel k a", hash("", "1"), reply.Int(1))
	asked(t, hash(), "hdel k a b", hash(), reply.Int(0))
	does(t, hash("\r\n\xff", "", "a", "1"), []string{"hdel", "k", "\r\n\xff"}, hash("a", "1"), reply.Int(1))
}

// P13.1: a hash from which the last pair is taken is none.
func TestLastIsTaken(t *testing.T) {
	asked(t, hash("a", "1"), "hdel k a", api.Value{}, reply.Int(1))
	asked(t, hash("a", "1"), "hdel k a a x", api.Value{}, reply.Int(1))
	asked(t, hash("", ""), "hdel k ", api.Value{}, reply.Int(1))
	asked(t, hash("a", "1", "b", "2", "c", "3"), "hdel k b c a", api.Value{}, reply.Int(3))
	asked(t, hash("a", "1", "b", "2", "c", "3"), "hdel k a b x c b a", api.Value{}, reply.Int(3))
}

// P13.1: a request's words are 32 at most: all of them are looked at.
func TestManyWords(t *testing.T) {
	var pairs, words []string
	for i := range api.MaxArgs - 2 {
		name := "w" + strconv.Itoa(100+i)
		pairs = append(pairs, name, strconv.Itoa(i))
		words = append(words, name)
	}
	v := hash(append(pairs, "x", "y")...)
	does(t, v, append([]string{"hdel", "k"}, words...), hash("x", "y"), reply.Int(30))
	slices.Reverse(words)
	does(t, v, append([]string{"hdel", "k"}, words...), hash("x", "y"), reply.Int(30))
	does(t, hash(pairs...), append([]string{"hdel", "k"}, words...), api.Value{}, reply.Int(30))
}

// P13.1: hlen tells how many pairs there are, and changes nothing.
func TestHlen(t *testing.T) {
	asked(t, hash(), "hlen k", hash(), reply.Int(0))
	asked(t, hash("", ""), "hlen k", hash("", ""), reply.Int(1))
	asked(t, hash("a", "1", "b", "1", "c", "1"), "hlen k", hash("a", "1", "b", "1", "c", "1"), reply.Int(3))
	var many []string
	for i := range 300 {
		many = append(many, strconv.Itoa(1000+i), "")
	}
	asked(t, hash(many...), "hlen k", hash(many...), reply.Int(300))
}

// P13.1: hgetall tells each Name and its Val, one behind the other, in order, and changes nothing.
func TestHgetall(t *testing.T) {
	for _, l := range [][]string{{}, {"a", "1"}, {"", ""}, {"a", "2", "b", "1", "c", "a"}, {"", "\r\n", "a", "", "\xff\r\n", "$-1\r\n"}} {
		asked(t, hash(l...), "hgetall k", hash(l...), reply.Texts(l...))
	}
	v := hash("a", "1", "b", "2")
	asked(t, v, "hgetall k", v, []byte("*4\r\n$1\r\na\r\n$1\r\n1\r\n$1\r\nb\r\n$1\r\n2\r\n"))
	asked(t, hash(), "hgetall k", hash(), []byte("*0\r\n"))
}

// P13.1: hincrby adds to the number that the Val tells; a Name that is not there is 0.
func TestHincrby(t *testing.T) {
	asked(t, hash("b", "1"), "hincrby k a 5", hash("a", "5", "b", "1"), reply.Int(5))
	asked(t, hash("b", "1"), "hincrby k c -5", hash("b", "1", "c", "-5"), reply.Int(-5))
	asked(t, hash("b", "1"), "hincrby k b 5", hash("b", "6"), reply.Int(6))
	asked(t, hash("b", "1"), "hincrby k b -1", hash("b", "0"), reply.Int(0))
	asked(t, hash("b", "9"), "hincrby k b 0", hash("b", "9"), reply.Int(9))
	asked(t, hash("a", "x", "b", "9", "c", ""), "hincrby k b 1", hash("a", "x", "b", "10", "c", ""), reply.Int(10))
	asked(t, hash("a", "x"), "hincrby k b 1", hash("a", "x", "b", "1"), reply.Int(1))
	asked(t, hash(), "hincrby k a 5", hash("a", "5"), reply.Int(5))
	asked(t, hash(), "hincrby k a 0", hash("a", "0"), reply.Int(0))
	asked(t, hash(), "hincrby k  -7", hash("", "-7"), reply.Int(-7))
	asked(t, hash(), "hincrby k 3 4", hash("3", "4"), reply.Int(4))
}

// P13.1: what just fits is added.
func TestHincrbyFits(t *testing.T) {
	asked(t, hash(), "hincrby k a "+greatest, hash("a", greatest), reply.Int(1<<63-1))
	asked(t, hash(), "hincrby k a "+least, hash("a", least), reply.Int(-1<<63))
	asked(t, hash("a", least), "hincrby k a "+greatest, hash("a", "-1"), reply.Int(-1))
	asked(t, hash("a", greatest), "hincrby k a "+least, hash("a", "-1"), reply.Int(-1))
	asked(t, hash("a", greatest), "hincrby k a 0", hash("a", greatest), reply.Int(1<<63-1))
	asked(t, hash("a", "9223372036854775806"), "hincrby k a 1", hash("a", greatest), reply.Int(1<<63-1))
	asked(t, hash("a", "-9223372036854775807"), "hincrby k a -1", hash("a", least), reply.Int(-1<<63))
}

// P13.1: a by, or a Val, that is no number is told, and the hash stays.
func TestNotInt(t *testing.T) {
	wrong := []string{"", "x", "+1", "01", "-0", "1.0", "1e3", "0x1", "1_0", "--1", "-", " 1", "1 ", "9223372036854775808", "-9223372036854775809", "1\r\n"}
	told := reply.Err(api.NotInt)
	for _, s := range wrong {
		for _, v := range []api.Value{hash(), hash("a", "1"), hash("b", "1"), hash("a", s, "b", "1")} {
			does(t, v, []string{"hincrby", "k", "a", s}, v, told)
		}
		v := hash("a", s, "b", "1")
		does(t, v, []string{"hincrby", "k", "a", "5"}, v, told)
		// It is told ahead of what does not fit.
		does(t, v, []string{"hincrby", "k", "a", greatest}, v, told)
		does(t, hash("a", greatest), []string{"hincrby", "k", "a", s}, hash("a", greatest), told)
		// The Val of another Name does not matter.
		does(t, v, []string{"hincrby", "k", "b", "5"}, hash("a", s, "b", "6"), reply.Int(6))
	}
}

// P13.1: what does not fit together is told, and the hash stays.
func TestOverflow(t *testing.T) {
	stays(t, hash("a", greatest), "hincrby k a 1", api.Overflow)
	stays(t, hash("a", greatest), "hincrby k a "+greatest, api.Overflow)
	stays(t, hash("a", "1"), "hincrby k a "+greatest, api.Overflow)
	stays(t, hash("a", least), "hincrby k a -1", api.Overflow)
	stays(t, hash("a", "-1"), "hincrby k a "+least, api.Overflow)
	stays(t, hash("a", least, "b", "1"), "hincrby k a "+least, api.Overflow)
}

// P13.1: a command's name is one in any letters, as requests that fit have it; no other word is changed.
func TestLetters(t *testing.T) {
	v := hash("A", "1", "a", "x")
	asked(t, v, "HSET k A X", hash("A", "X", "a", "x"), reply.Int(0))
	asked(t, v, "hSet k B X", hash("A", "1", "B", "X", "a", "x"), reply.Int(1))
	asked(t, v, "HGet k a", v, reply.Bulk("x"))
	asked(t, v, "HGET k A", v, reply.Bulk("1"))
	asked(t, v, "HDEL k A", hash("a", "x"), reply.Int(1))
	asked(t, v, "hLEN k", v, reply.Int(2))
	asked(t, v, "HGETALL k", v, reply.Texts("A", "1", "a", "x"))
	asked(t, v, "HIncrBy k A 2", hash("A", "3", "a", "x"), reply.Int(3))
}

// P13.1: the key's name does not matter.
func TestKeyNames(t *testing.T) {
	v := hash("a", "5", "k", "9")
	for _, key := range []string{"", "a", "k", "hget", "7", "x\r\n"} {
		does(t, v, []string{"hset", key, "a", "x"}, hash("a", "x", "k", "9"), reply.Int(0))
		does(t, v, []string{"hget", key, "a"}, v, reply.Bulk("5"))
		does(t, v, []string{"hdel", key, "k"}, hash("a", "5"), reply.Int(1))
		does(t, v, []string{"hlen", key}, v, reply.Int(2))
		does(t, v, []string{"hgetall", key}, v, reply.Texts("a", "5", "k", "9"))
		does(t, v, []string{"hincrby", key, "a", "2"}, hash("a", "7", "k", "9"), reply.Int(7))
	}
}

// P13.1: nothing panics, whatever the words: of words that are too few, v, and no bytes.
func TestTooFewWords(t *testing.T) {
	fewest := []string{"hset k a 1", "hget k a", "hdel k a", "hlen k", "hgetall k", "hincrby k a 1"}
	for _, v := range append(others(), api.Value{}, hash("a", "1", "b", "2")) {
		does(t, v, nil, v, nil)
		does(t, v, []string{}, v, nil)
		for _, request := range fewest {
			args := strings.Split(request, " ")
			for n := 1; n < len(args); n++ {
				does(t, v, args[:n], v, nil)
			}
		}
	}
}

// P13.1: nothing panics, whatever the value: one that may not be has no hash, or a strange one.
func TestStrangeValues(t *testing.T) {
	turned := []api.Pair{{Name: "c"}, {Name: "b", Val: "1"}, {Name: "a", Val: "2"}, {Name: "a", Val: "x"}}
	for _, v := range []api.Value{{Kind: api.KHash}, {Kind: api.KHash, H: []api.Pair{}}, {Kind: api.KHash, H: turned}, {H: turned}, {Kind: 6}, {Kind: 255, H: turned}} {
		for _, request := range named() {
			if _, told := hashes.Do(v, strings.Split(request, " ")); len(told) == 0 {
				t.Errorf("Do(%v, %q) tells nothing", v, request)
			}
		}
	}
}

// P13.1: what is handed in is not changed, and what is told is the caller's own.
func TestOwn(t *testing.T) {
	// Room behind the row, and behind the words, is the caller's too.
	row := append(make([]api.Pair, 0, 8), api.Pair{Name: "a", Val: "1"}, api.Pair{Name: "c", Val: "2"}, api.Pair{Name: "e"})
	for _, v := range append(others(), api.Value{}, hash("a", "12"), api.Value{Kind: api.KHash, H: row}) {
		was := value.Own(v)
		for _, request := range append(named(), "lpush k 1") {
			args := strings.Split(strings.ToUpper(request), " ")
			args = append(make([]string, 0, 16), args...)
			words := slices.Clone(args)
			first, told := hashes.Do(v, args)
			kept, anew := value.Own(first), string(told)
			spoil(first)
			for i := range told {
				told[i] = '!'
			}
			if !value.Same(v, was) || !slices.Equal(args, words) {
				t.Errorf("what Do(%v, %q) tells is its argument", was, words)
			}
			again, told := hashes.Do(v, args)
			for i := range args {
				args[i] = "!"
			}
			if !value.Same(kept, again) || string(told) != anew {
				t.Errorf("Do(%v, %q) = %v, %q, then %v, %q", was, words, kept, anew, again, told)
			}
		}
	}
	for _, p := range row[3:8] {
		if p != (api.Pair{}) {
			t.Errorf("behind the row there is %v", p)
		}
	}
}

// spoil writes into each row of v, and into the room behind.
func spoil(v api.Value) {
	for i := range v.L {
		v.L[i] = "!"
	}
	for i := range v.H {
		v.H[i] = api.Pair{Name: "!", Val: "!"}
	}
	_ = append(v.H, api.Pair{Name: "!", Val: "!"}, api.Pair{Name: "!"})
	for i := range v.Z {
		v.Z[i].N = -99
	}
}

// P13.2: what was set is got.
func TestSetIsGot(t *testing.T) {
	texts := []string{"", "a", "A", "aa", "b", "\x00", "\r\n", "\xff", "7", "-7", strings.Repeat("x", api.MaxBulk)}
	for _, was := range []api.Value{hash(), hash("a", "1"), hash("", "", "b", "2", "c", "3")} {
		for _, name := range texts {
			for _, val := range texts {
				v, _ := hashes.Do(was, []string{"hset", "k", name, val})
				does(t, v, []string{"hget", "k", name}, v, reply.Bulk(val))
			}
		}
	}
}

// P13.2: no other Name changes, whatever is done with one of them.
func TestOtherNames(t *testing.T) {
	names := []string{"", "a", "ab", "b", "c", "d", "\xff"}
	var l []string
	for i, name := range names {
		l = append(l, name, strconv.Itoa(i))
	}
	v := hash(l...)
	for _, name := range append(names, "A", "aa", "e", "\xff\xff") {
		for _, args := range [][]string{{"hset", "k", name, "x"}, {"hincrby", "k", name, "5"}, {"hdel", "k", name}} {
			w, _ := hashes.Do(v, args)
			for i, other := range names {
				if other != name {
					does(t, w, []string{"hget", "k", other}, w, reply.Bulk(strconv.Itoa(i)))
				}
			}
		}
	}
}

// P13.1, P13.2: many requests, one behind the other, against a map.
func TestAgainstAMap(t *testing.T) {
	r := rand.New(rand.NewSource(13))
	for range 80 {
		var v api.Value
		all := map[string]string{}
		for range 80 {
			args, told := step(r, all)
			does(t, v, args, hash(flat(all)...), told)
			v, _ = hashes.Do(v, args)
		}
	}
}

// flat is a map's names and what they have, one behind the other, the names rising.
func flat(all map[string]string) []string {
	var l []string
	for _, name := range slices.Sorted(maps.Keys(all)) {
		l = append(l, name, all[name])
	}
	return l
}

// step picks a request, does it to the map, and tells the reply.
func step(r *rand.Rand, all map[string]string) ([]string, []byte) {
	names := []string{"", "a", "aa", "b", "c", "C", "\xff"}
	name := names[r.Intn(len(names))]
	val, there := all[name]
	switch r.Intn(6) {
	case 0:
		anew := []string{"", "x", "3", "-4", greatest, least}[r.Intn(6)]
		all[name] = anew
		return []string{"hset", "k", name, anew}, reply.Int(one(!there))
	case 1:
		if !there {
			return []string{"hget", "k", name}, reply.Null()
		}
		return []string{"hget", "k", name}, reply.Bulk(val)
	case 2:
		other := names[r.Intn(len(names))]
		had := len(all)
		delete(all, name)
		delete(all, other)
		return []string{"hdel", "k", name, other}, reply.Int(had - len(all))
	case 3:
		return []string{"hlen", "k"}, reply.Int(len(all))
	case 4:
		return []string{"hgetall", "k"}, reply.Texts(flat(all)...)
	}
	by := r.Intn(9) - 4
	return []string{"hincrby", "k", name, strconv.Itoa(by)}, add(all, name, by)
}

// add adds a small number to what the map has, and tells the reply.
func add(all map[string]string, name string, by int) []byte {
	val, there := all[name]
	if !there {
		val = "0"
	}
	n, err := strconv.Atoi(val)
	if err != nil {
		return reply.Err(api.NotInt)
	}
	if sum := n + by; by != 0 && (sum > n) != (by > 0) {
		return reply.Err(api.Overflow)
	}
	all[name] = strconv.Itoa(n + by)
	return reply.Int(n + by)
}

func one(b bool) int {
	if b {
		return 1
	}
	return 0
}
