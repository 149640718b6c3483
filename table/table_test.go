package table_test

import (
	"math"
	"slices"
	"strconv"
	"strings"
	"testing"

	"tipstaff/api"
	"tipstaff/table"
)

// group is a line of the document's table: which ids, their names and arities, their category, and which of them read; the others write, if any does.
type group struct {
	from, to        int
	row, cat, reads string
}

func groups() []group {
	return []group{
		{0, 8, "get 2, set -3, append 3, strlen 2, incrby 3, incr 2, getdel 2, mget -2, mset -3", "string", "get strlen mget"},
		{9, 14, "lpush -3, rpush -3, lpop 2, rpop 2, llen 2, lrange 4", "list", "llen lrange"},
		{15, 20, "hset 4, hget 3, hdel -3, hlen 2, hgetall 2, hincrby 4", "hash", "hget hlen hgetall"},
		{21, 26, "sadd -3, srem -3, sismember 3, smembers 2, scard 2, smove 4", "set", "sismember smembers scard"},
		{27, 32, "zadd 4, zrem -3, zscore 3, zrange 4, zcard 2, zincrby 4", "sortedset", "zscore zrange zcard"},
		{33, 42, "del -2, exists -2, type 2, expire 3, ttl 2, persist 2, rename 3, keys 2, dbsize 1, flushall 1", "keyspace", "exists type ttl keys dbsize"},
		{43, 46, "ping 1, echo 2, auth -2, quit 1", "connection", ""},
		{47, 51, "multi 1, exec 1, discard 1, watch -2, unwatch 1", "transaction", ""},
		{52, 54, "subscribe -2, unsubscribe -1, publish 3", "pubsub", ""},
		{55, 55, "acl -2", "admin", ""},
	}
}

func names() []string {
	return []string{"read", "write", "keyspace", "string", "list", "hash", "set", "sortedset", "pubsub", "connection", "transaction", "admin"}
}

func bit(name string) uint16 { return 1 << slices.Index(names(), name) }

func commands(t *testing.T) []api.Command {
	t.Helper()
	var all []api.Command
	for _, g := range groups() {
		if len(all) != g.from {
			t.Fatal("the test's own rows", g)
		}
		for _, s := range strings.Split(g.row, ", ") {
			name, digits, _ := strings.Cut(s, " ")
			arity, err := strconv.Atoi(digits)
			if err != nil {
				t.Fatal(err)
			}
			cats := bit(g.cat)
			if slices.Contains(strings.Fields(g.reads), name) {
				cats |= bit("read")
			} else if g.reads != "" {
				cats |= bit("write")
			}
			all = append(all, api.Command{Name: name, Arity: arity, Cats: cats})
		}
		if len(all) != g.to+1 {
			t.Fatal("the test's own rows", g)
		}
	}
	return all
}

// P7.1: each id's command.
func TestAt(t *testing.T) {
	for id, want := range commands(t) {
		if c, ok := table.At(id); c != want || !ok {
			t.Errorf("At(%d) = %v, %v, not %v", id, c, ok, want)
		}
	}
}

// P7.1: the categories' bits, in digits, of one command of each.
func TestBits(t *testing.T) {
	for id, cats := range map[int]uint16{0: 9, 1: 10, 9: 18, 14: 17, 15: 34, 16: 33, 21: 66, 23: 65, 27: 130, 29: 129, 33: 6, 34: 5, 43: 512, 47: 1024, 50: 1024, 52: 256, 55: 2048} {
		if c, _ := table.At(id); c.Cats != cats {
			t.Errorf("At(%d) = %v, not categories %d", id, c, cats)
		}
	}
}

// P7.2: how many there are.
func TestCount(t *testing.T) {
	if table.Count() != 56 || len(commands(t)) != 56 {
		t.Error(table.Count())
	}
}

// P7.2: ids of which there is no command.
func TestAtNone(t *testing.T) {
	for _, id := range []int{-1, -2, -56, 56, 57, 64, 128, 255, 256, 1 << 32, math.MinInt, math.MaxInt} {
		if c, ok := table.At(id); c != (api.Command{}) || ok {
			t.Errorf("At(%d) = %v, %v", id, c, ok)
		}
	}
}

// P7.2 and P7.3: each name, in small and in great letters.
func TestFind(t *testing.T) {
	for id, c := range commands(t) {
		mixed := strings.ToUpper(c.Name[:1]) + c.Name[1:len(c.Name)-1] + strings.ToUpper(c.Name[len(c.Name)-1:])
		for _, name := range []string{c.Name, strings.ToUpper(c.Name), mixed} {
			if n, ok := table.Find(name); n != id || !ok {
				t.Errorf("Find(%q) = %d, %v, not %d", name, n, ok, id)
			}
		}
	}
}

// P7.3: what At tells is found.
func TestFindAt(t *testing.T) {
	for id := range table.Count() {
		c, _ := table.At(id)
		if n, ok := table.Find(c.Name); n != id || !ok {
			t.Errorf("Find(%q) = %d, %v, not %d", c.Name, n, ok, id)
		}
	}
}

// P7.2: names of no command.
func TestFindNone(t *testing.T) {
	wrong := []string{"", " ", "\x00", "*", "all", "read", "write", "string", "list", "hash", "pubsub", "setuser", "ge", "gett", "GE", "\u212Aeys", "flu\u017Fhall", "get\xff", "\xe7et", "g\x45\x00", "gEt\n", "'et", "Get2", strings.Repeat("get", 1000)}
	for _, c := range commands(t) {
		wrong = append(wrong, c.Name+" ", " "+c.Name, c.Name+"\x00", c.Name+"\r\n", c.Name+c.Name, c.Name[:len(c.Name)-1])
	}
	for _, name := range wrong {
		if id, ok := table.Find(name); id != -1 || ok {
			t.Errorf("Find(%.40q) = %d, %v", name, id, ok)
		}
	}
}

// P7.2: how many words fit.
func TestFits(t *testing.T) {
	for id, c := range commands(t) {
		for words := -60; words <= 60; words++ {
			want := words == c.Arity
			if c.Arity < 0 {
				want = words+c.Arity >= 0
			}
			if table.Fits(id, words) != want {
				t.Errorf("Fits(%d, %d) of %v is not %v", id, words, c, want)
			}
		}
		least := c.Arity < 0
		for _, words := range []int{1 << 32, 1<<32 + 2, math.MaxInt} {
			if table.Fits(id, words) != least {
				t.Errorf("Fits(%d, %d) of %v is not %v", id, words, c, least)
			}
		}
		for _, words := range []int{math.MinInt, math.MinInt + 1, -1 << 32} {
			if table.Fits(id, words) {
				t.Errorf("Fits(%d, %d) of %v", id, words, c)
			}
		}
	}
}

// P7.2: the document's examples, and the edges of a few.
func TestFitsExamples(t *testing.T) {
	for _, x := range []struct {
		id, words int
		fits      bool
	}{
		{1, 3, true}, {0, 3, false}, {1, 2, false}, {1, 4, true}, {1, 32, true}, {0, 2, true}, {0, 1, false}, {0, 0, false},
		{41, 1, true}, {41, 2, false}, {41, 0, false}, {53, 1, true}, {53, 0, false}, {53, 2, true}, {53, -1, false}, {55, 1, false}, {55, 2, true},
	} {
		if table.Fits(x.id, x.words) != x.fits {
			t.Errorf("Fits(%d, %d) is not %v", x.id, x.words, x.fits)
		}
	}
}

// P7.2: of no command no number of words fits.
func TestFitsNone(t *testing.T) {
	for _, id := range []int{-1, 56, 57, 255, math.MinInt, math.MaxInt} {
		for _, words := range []int{math.MinInt, -1, 0, 1, 2, 3, 32, math.MaxInt} {
			if table.Fits(id, words) {
				t.Errorf("Fits(%d, %d)", id, words)
			}
		}
	}
}

// P7.1 and P7.2: each category's ids.
func TestCat(t *testing.T) {
	for _, name := range names() {
		var want uint64
		for id, c := range commands(t) {
			if c.Cats&bit(name) != 0 {
				want |= 1 << id
			}
		}
		if bits, ok := table.Cat(name); bits != want || !ok {
			t.Errorf("Cat(%q) = %x, %v, not %x", name, bits, ok, want)
		}
	}
	for name, want := range map[string]uint64{
		"all": 1<<56 - 1, "string": 1<<9 - 1, "list": 1<<15 - 1<<9, "hash": 1<<21 - 1<<15, "set": 1<<27 - 1<<21, "sortedset": 1<<33 - 1<<27,
		"keyspace": 1<<43 - 1<<33, "connection": 1<<47 - 1<<43, "transaction": 1<<52 - 1<<47, "pubsub": 1<<55 - 1<<52, "admin": 1 << 55,
	} {
		if bits, ok := table.Cat(name); bits != want || !ok {
			t.Errorf("Cat(%q) = %x, %v, not %x", name, bits, ok, want)
		}
	}
}

// P7.2: read and write are apart from each other, and both together are what stands ahead of ping.
func TestCatReadWrite(t *testing.T) {
	r, _ := table.Cat("read")
	w, _ := table.Cat("write")
	if r&w != 0 || r|w != 1<<43-1 {
		t.Errorf("%x, %x", r, w)
	}
}

// P7.2: names of no category; they are told letter by letter.
func TestCatNone(t *testing.T) {
	wrong := []string{"", " ", "ALL", "All", "all ", "@all", "al", "alll", "none", "get", "ping", "acl", "sorted", "sorted set", "keys", "text", "strings", "*", "\x00", "admin\n"}
	for _, name := range names() {
		wrong = append(wrong, strings.ToUpper(name), "@"+name, "+"+name, name+" ", name+"s", name[1:])
	}
	for _, name := range wrong {
		if bits, ok := table.Cat(name); bits != 0 || ok {
			t.Errorf("Cat(%q) = %x, %v", name, bits, ok)
		}
	}
}

// P7.2: the categories' names; and none sees what becomes of what was told.
func TestCats(t *testing.T) {
	for range 2 {
		l := table.Cats()
		if !slices.Equal(l, names()) {
			t.Error(l)
		}
		for i := range l {
			l[i] = "x"
		}
		_ = append(l[:3], "y")
	}
	if bits, ok := table.Cat("read"); bits == 0 || !ok {
		t.Error("Cat hangs on what Cats told")
	}
}
