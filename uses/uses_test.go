package uses_test

import (
	"math"
	"slices"
	"strings"
	"testing"

	"tipstaff/api"
	"tipstaff/table"
	"tipstaff/uses"
)

// The document's rows of commands whose second word alone is a key.
const (
	secondRead  = "get strlen llen lrange hget hlen hgetall sismember smembers scard zscore zrange zcard type ttl"
	secondBoth  = "append incrby incr getdel lpush rpush lpop rpop hset hdel hincrby sadd srem zadd zrem zincrby expire persist"
	withoutKeys = "ping echo auth quit multi exec discard unwatch unsubscribe acl"
)

func same(a, b api.Need) bool {
	return a.Cmd == b.Cmd && slices.Equal(a.Keys, b.Keys) && a.AllR == b.AllR && a.AllW == b.AllW && slices.Equal(a.Chans, b.Chans)
}

func id(t *testing.T, name string) int {
	t.Helper()
	n, ok := table.Find(name)
	if !ok {
		t.Fatal("no command", name)
	}
	return n
}

// requests are some of a command that fit, each word of its own.
func requests(c api.Command) [][]string {
	var l [][]string
	for words := 1; words <= api.MaxArgs+1; words++ {
		if c.Arity < 0 && words < -c.Arity || c.Arity >= 0 && words != c.Arity || c.Name == "mset" && words%2 == 0 {
			continue
		}
		args := []string{c.Name}
		for i := 1; i < words; i++ {
			args = append(args, "w"+strings.Repeat("x", i))
		}
		l = append(l, args)
	}
	return l
}

func commands() []api.Command {
	var l []api.Command
	for i := range table.Count() {
		c, _ := table.At(i)
		l = append(l, c)
	}
	return l
}

// marks is a row of uses, told as a text: a:rw b:w.
func marks(row string) []api.Use {
	var l []api.Use
	for _, s := range strings.Fields(row) {
		key, how, _ := strings.Cut(s, ":")
		l = append(l, api.Use{Key: key, R: strings.Contains(how, "r"), W: strings.Contains(how, "w")})
	}
	return l
}

// P8.1: requests, and what they need.
func TestOf(t *testing.T) {
	for _, x := range []struct {
		request string
		keys    string
		all     string
		chans   string
	}{
		{"get a", "a:r", "", ""},
		{"set a 1", "a:w", "", ""},
		{"set a 1 nx", "a:rw", "", ""},
		{"set a 1 ex 5", "a:rw", "", ""},
		{"set a 1 what ever", "a:rw", "", ""},
		{"set a a", "a:w", "", ""},
		{"append a b", "a:rw", "", ""},
		{"incrby a 2", "a:rw", "", ""},
		{"incr a", "a:rw", "", ""},
		{"getdel a", "a:rw", "", ""},
		{"mget a", "a:r", "", ""},
		{"mget a b a", "a:r b:r a:r", "", ""},
		{"mset a 1", "a:w", "", ""},
		{"mset a 1 b 2 a 3", "a:w b:w a:w", "", ""},
		{"lpush a b c d", "a:rw", "", ""},
		{"lrange a 0 1", "a:r", "", ""},
		{"hset a b c", "a:rw", "", ""},
		{"hdel a b c", "a:rw", "", ""},
		{"sadd a b c", "a:rw", "", ""},
		{"sismember a b", "a:r", "", ""},
		{"smove a b c", "a:rw b:rw", "", ""},
		{"smove a a a", "a:rw a:rw", "", ""},
		{"zadd a 1 b", "a:rw", "", ""},
		{"zrem a b c", "a:rw", "", ""},
		{"del a", "a:rw", "", ""},
		{"del b a b", "b:rw a:rw b:rw", "", ""},
		{"exists a", "a:r", "", ""},
		{"exists b a b", "b:r a:r b:r", "", ""},
		{"expire a 5", "a:rw", "", ""},
		{"persist a", "a:rw", "", ""},
		{"ttl a", "a:r", "", ""},
		{"rename a b", "a:rw b:w", "", ""},
		{"rename b a", "b:rw a:w", "", ""},
		{"rename a a", "a:rw a:w", "", ""},
		{"keys a*", "", "r", ""},
		{"dbsize", "", "r", ""},
		{"flushall", "", "w", ""},
		{"watch a", "a:r", "", ""},
		{"watch b a b", "b:r a:r b:r", "", ""},
		{"subscribe c", "", "", "c"},
		{"subscribe d c d", "", "", "d c d"},
		{"unsubscribe", "", "", ""},
		{"unsubscribe c d", "", "", ""},
		{"publish c hello", "", "", "c"},
		{"auth bob secret more", "", "", ""},
		{"acl setuser bob ~a &b", "", "", ""},
		{"echo a", "", "", ""},
	} {
		args := strings.Fields(x.request)
		want := api.Need{Cmd: id(t, args[0]), Keys: marks(x.keys), AllR: x.all == "r", AllW: x.all == "w", Chans: strings.Fields(x.chans)}
		if n, err := uses.Of(args); !same(n, want) || err != api.OK {
			t.Errorf("Of(%q) = %v, %d, not %v", x.request, n, err, want)
		}
	}
}

// P8.1: of each command whose second word alone is a key.
func TestSecond(t *testing.T) {
	for _, row := range []struct {
		names string
		w     bool
	}{{secondRead, false}, {secondBoth, true}} {
		for _, name := range strings.Fields(row.names) {
			c, _ := table.At(id(t, name))
			for _, args := range requests(c) {
				want := api.Need{Cmd: id(t, name), Keys: []api.Use{{Key: args[1], R: true, W: row.w}}}
				if n, err := uses.Of(args); !same(n, want) || err != api.OK {
					t.Errorf("Of(%q) = %v, %d, not %v", args, n, err, want)
				}
			}
		}
	}
}

// P8.1: of each command that needs neither keys nor channels.
func TestWithoutKeys(t *testing.T) {
	for _, name := range strings.Fields(withoutKeys) {
		c, _ := table.At(id(t, name))
		for _, args := range requests(c) {
			if n, err := uses.Of(args); !same(n, api.Need{Cmd: id(t, name)}) || err != api.OK {
				t.Errorf("Of(%q) = %v, %d", args, n, err)
			}
		}
	}
}

// P8.1: commands of however many words, word by word.
func TestManyWords(t *testing.T) {
	for _, c := range commands() {
		for _, args := range requests(c) {
			n, err := uses.Of(args)
			if err != api.OK {
				t.Errorf("Of(%q): %d", args, err)
			}
			var want []api.Use
			var chans []string
			for i, word := range args[1:] {
				switch c.Name {
				case "mget", "exists", "watch":
					want = append(want, api.Use{Key: word, R: true})
				case "del":
					want = append(want, api.Use{Key: word, R: true, W: true})
				case "mset":
					if i%2 == 0 {
						want = append(want, api.Use{Key: word, W: true})
					}
				case "set":
					if i == 0 {
						want = append(want, api.Use{Key: word, R: len(args) > 3, W: true})
					}
				case "subscribe":
					chans = append(chans, word)
				}
			}
			if want != nil && !slices.Equal(n.Keys, want) || chans != nil && !slices.Equal(n.Chans, chans) {
				t.Errorf("Of(%q) = %v, not %v, %v", args, n, want, chans)
			}
		}
	}
}

// P8.1: a command's name is found in whichever letters; keys stay as they are.
func TestLetters(t *testing.T) {
	for _, c := range commands() {
		for _, args := range requests(c) {
			small, err := uses.Of(args)
			great := slices.Clone(args)
			great[0] = strings.ToUpper(c.Name)
			if n, errGreat := uses.Of(great); !same(n, small) || err != api.OK || errGreat != api.OK {
				t.Errorf("Of(%q) = %v, %d, not %v", great, n, errGreat, small)
			}
		}
	}
	for _, key := range []string{"", "Ab", " a ", "*", "\x00\xff\r\n", "get", strings.Repeat("K", 10000)} {
		if n, err := uses.Of([]string{"GeT", key}); !slices.Equal(n.Keys, []api.Use{{Key: key, R: true}}) || err != api.OK {
			t.Errorf("Of(get %q) = %v, %d", key, n, err)
		}
		if n, err := uses.Of([]string{"Publish", key, key}); !slices.Equal(n.Chans, []string{key}) || n.Keys != nil || err != api.OK {
			t.Errorf("Of(publish %q) = %v, %d", key, n, err)
		}
	}
	for _, args := range [][]string{{"MSET", "a", "1", "b"}, {"mSeT", "a", "1", "b"}} {
		if n, err := uses.Of(args); !same(n, api.Need{}) || err != api.ErrArg {
			t.Errorf("Of(%q) = %v, %d", args, n, err)
		}
	}
}

// P8.1: no words, or the first one is no command's name; whatever stands behind it.
func TestOfNone(t *testing.T) {
	for _, args := range [][]string{
		nil, {}, {""}, {" "}, {"", "get", "a"}, {"none"}, {"none", "a"}, {"get "}, {" get", "a"}, {"get a"}, {"ge", "a"}, {"gett", "a"}, {"msets", "a"},
		{"\x00"}, {"get\x00", "a"}, {"get\r\n", "a"}, {"*", "a"}, {"read", "a"}, {"all"}, {"setuser", "bob"}, {"\u212Aeys", "a"}, {"flu\u017Fhall"}, {"0", "a"},
		{strings.Repeat("get", 1000), "a"},
	} {
		if n, err := uses.Of(args); !same(n, api.Need{}) || err != api.ErrNone {
			t.Errorf("Of(%.60q) = %v, %d", args, n, err)
		}
	}
}

// P8.1: as many words as do not fit.
func TestOfArg(t *testing.T) {
	for _, c := range commands() {
		for words := 1; words <= 40; words++ {
			args := append([]string{c.Name}, make([]string, words-1)...)
			want := api.OK
			if c.Arity < 0 && words < -c.Arity || c.Arity >= 0 && words != c.Arity || c.Name == "mset" && words%2 == 0 {
				want = api.ErrArg
			}
			n, err := uses.Of(args)
			if err != want || err != api.OK && !same(n, api.Need{}) {
				t.Errorf("Of(%s, of %d words) = %v, %d, not %d", c.Name, words, n, err, want)
			}
		}
	}
}

// P8.1: far more words than a request may have.
func TestOfGreat(t *testing.T) {
	args := append([]string{"del"}, make([]string, 100000)...)
	if n, err := uses.Of(args); len(n.Keys) != 100000 || err != api.OK {
		t.Error(len(n.Keys), err)
	}
	args[0] = "mset"
	if n, err := uses.Of(args); len(n.Keys) != 50000 || err != api.OK {
		t.Error(len(n.Keys), err)
	}
	if n, err := uses.Of(args[:100000]); !same(n, api.Need{}) || err != api.ErrArg {
		t.Error(len(n.Keys), err)
	}
	args[0] = "subscribe"
	if n, err := uses.Of(args); len(n.Chans) != 100000 || err != api.OK {
		t.Error(len(n.Chans), err)
	}
}

// P8.1: what is handed in stays as it is, and neither sees what becomes of the other's.
func TestOfIsOwn(t *testing.T) {
	for _, c := range commands() {
		for _, args := range requests(c) {
			handed := slices.Clone(args)
			n, _ := uses.Of(handed)
			want := api.Need{Cmd: n.Cmd, Keys: slices.Clone(n.Keys), AllR: n.AllR, AllW: n.AllW, Chans: slices.Clone(n.Chans)}
			if !slices.Equal(handed, args) {
				t.Errorf("Of(%q) changed it: %q", args, handed)
			}
			for i := range handed {
				handed[i] = "changed"
			}
			if !same(n, want) {
				t.Errorf("Of(%q) sees what becomes of its words: %v", args, n)
			}
			handed = slices.Clone(args)
			n, _ = uses.Of(handed)
			for i := range n.Keys {
				n.Keys[i] = api.Use{Key: "changed"}
			}
			for i := range n.Chans {
				n.Chans[i] = "changed"
			}
			_, _ = append(n.Keys, api.Use{Key: "more"}), append(n.Chans, "more")
			if !slices.Equal(handed, args) {
				t.Errorf("Of(%q) tells what is the caller's: %q", args, handed)
			}
			if again, err := uses.Of(args); !same(again, want) || err != api.OK {
				t.Errorf("Of(%q) hangs on what was told: %v", args, again)
			}
		}
	}
}

// P8.2: the keys that are read, and those that are written, in order.
func TestReadsWrites(t *testing.T) {
	for _, x := range []struct{ keys, reads, writes string }{
		{"", "", ""},
		{"a:r", "a", ""},
		{"a:w", "", "a"},
		{"a:rw", "a", "a"},
		{"a:", "", ""},
		{"a:rw b:w", "a", "a b"},
		{"b:r a:rw c: d:w a:r", "b a a", "a d"},
		{"b:w a:r b:r a:w b:w", "a b", "b a b"},
	} {
		n := api.Need{Cmd: 3, Keys: marks(x.keys), Chans: []string{"c"}}
		if l := uses.Reads(n); !slices.Equal(l, strings.Fields(x.reads)) {
			t.Errorf("Reads(%q) = %q", x.keys, l)
		}
		if l := uses.Writes(n); !slices.Equal(l, strings.Fields(x.writes)) {
			t.Errorf("Writes(%q) = %q", x.keys, l)
		}
		if !slices.Equal(n.Keys, marks(x.keys)) {
			t.Errorf("changed: %v", n)
		}
	}
}

// P8.2: just the keys are told, whatever else stands in what is needed; any bytes may be in them.
func TestReadsWritesOdd(t *testing.T) {
	for _, n := range []api.Need{{}, {Cmd: -1}, {Cmd: math.MaxInt}, {Cmd: 42, AllR: true, AllW: true}, {Cmd: 52, Chans: []string{"a", "b"}}, {Keys: []api.Use{{Key: "a"}, {}}}} {
		if r, w := uses.Reads(n), uses.Writes(n); len(r) != 0 || len(w) != 0 {
			t.Errorf("%v: %q, %q", n, r, w)
		}
	}
	n := api.Need{Cmd: -5, AllR: true, AllW: true, Keys: []api.Use{{Key: "", R: true, W: true}, {Key: "\xff\x00", R: true}, {Key: "B", W: true}}}
	if r := uses.Reads(n); !slices.Equal(r, []string{"", "\xff\x00"}) {
		t.Errorf("%q", r)
	}
	if w := uses.Writes(n); !slices.Equal(w, []string{"", "B"}) {
		t.Errorf("%q", w)
	}
}

// P8.2: of requests.
func TestReadsWritesOfRequests(t *testing.T) {
	for request, want := range map[string][2]string{
		"get a": {"a", ""}, "set a 1": {"", "a"}, "set a 1 xx": {"a", "a"}, "rename a b": {"a", "a b"}, "smove a b c": {"a b", "a b"},
		"mget b a b": {"b a b", ""}, "mset b 1 a 2": {"", "b a"}, "del b a": {"b a", "b a"}, "keys a": {"", ""}, "flushall": {"", ""}, "publish a b": {"", ""},
	} {
		n, _ := uses.Of(strings.Fields(request))
		if r, w := uses.Reads(n), uses.Writes(n); !slices.Equal(r, strings.Fields(want[0])) || !slices.Equal(w, strings.Fields(want[1])) {
			t.Errorf("%s: %q, %q", request, r, w)
		}
	}
}

// P8.3, as far as this layer shows it: a command of the category read reads and writes nothing, one of write writes, and one of neither changes no key.
func TestCategories(t *testing.T) {
	reads, _ := table.Cat("read")
	writes, _ := table.Cat("write")
	for i, c := range commands() {
		for _, args := range requests(c) {
			n, _ := uses.Of(args)
			r := n.AllR || len(uses.Reads(n)) > 0
			w := n.AllW || len(uses.Writes(n)) > 0
			switch {
			case reads>>i&1 == 1 && (!r || w), writes>>i&1 == 1 && !w, (reads|writes)>>i&1 == 0 && w:
				t.Errorf("%q reads %v, writes %v", args, r, w)
			}
			if r && reads>>i&1 == 0 && writes>>i&1 == 0 && c.Name != "watch" {
				t.Errorf("%q reads", args)
			}
		}
	}
}

// P8.3, as far as this layer shows it: what is written is read too, but where neither the reply nor what is written hangs on what the key had.
func TestWrittenIsRead(t *testing.T) {
	for _, c := range commands() {
		for _, args := range requests(c) {
			n, _ := uses.Of(args)
			blind := n.AllW && !n.AllR
			for _, u := range n.Keys {
				blind = blind || u.W && !u.R
			}
			want := c.Name == "mset" || c.Name == "rename" || c.Name == "flushall" || c.Name == "set" && len(args) == 3
			if blind != want {
				t.Errorf("%q needs %v", args, n)
			}
		}
	}
}

// P8.3, as far as this layer shows it: only a command's own words are keys and channels, and all keys are asked for by just three.
func TestOwnWords(t *testing.T) {
	for _, c := range commands() {
		for _, args := range requests(c) {
			n, _ := uses.Of(args)
			for _, u := range n.Keys {
				if !slices.Contains(args[1:], u.Key) || !u.R && !u.W {
					t.Errorf("%q needs %v", args, n)
				}
			}
			for _, s := range n.Chans {
				if !slices.Contains(args[1:], s) {
					t.Errorf("%q needs %v", args, n)
				}
			}
			if (n.AllR || n.AllW) != slices.Contains([]string{"keys", "dbsize", "flushall"}, c.Name) || n.AllR && n.AllW {
				t.Errorf("%q needs %v", args, n)
			}
		}
	}
}
