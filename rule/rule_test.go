package rule_test

import (
	"math/rand"
	"strings"
	"testing"

	"tipstaff/api"
	"tipstaff/mac"
	"tipstaff/num"
	"tipstaff/rule"
	"tipstaff/table"
)

// is asks for the rule that a word is.
func is(t *testing.T, word string, want api.Rule) {
	t.Helper()
	if r, ok := rule.Parse(word); !ok || r != want {
		t.Errorf("Parse(%q) = %+v, %v, not %+v, true", word, r, ok, want)
	}
}

// none asks for no rule.
func none(t *testing.T, words ...string) {
	t.Helper()
	for _, word := range words {
		if r, ok := rule.Parse(word); ok || r != (api.Rule{}) {
			t.Errorf("Parse(%q) = %+v, %v, not none", word, r, ok)
		}
	}
}

func keys(pat string, r, w bool) api.Rule { return api.Rule{Kind: 10, S: pat, R: r, W: w} }

// every is 2^id of each of the ids from one up to another, with both.
func every(from, to int) uint64 {
	var mask uint64
	for id := from; id <= to; id++ {
		mask |= 1 << id
	}
	return mask
}

func only(ids ...int) uint64 {
	var mask uint64
	for _, id := range ids {
		mask |= 1 << id
	}
	return mask
}

const all = 1<<56 - 1

// masks are the bits of each category's commands, by the document's table.
func masks() map[string]uint64 {
	read := only(0, 3, 7, 13, 14, 16, 18, 19, 23, 24, 25, 29, 30, 31, 34, 35, 37, 40, 41)
	return map[string]uint64{
		"read": read, "write": every(0, 42) &^ read, "keyspace": every(33, 42), "string": every(0, 8), "list": every(9, 14),
		"hash": every(15, 20), "set": every(21, 26), "sortedset": every(27, 32), "pubsub": every(52, 54),
		"connection": every(43, 46), "transaction": every(47, 51), "admin": only(55), "all": all,
	}
}

// fixed are the words that nothing is told behind.
func fixed() map[string]api.Rule {
	return map[string]api.Rule{
		"on": {Kind: 1}, "off": {Kind: 2}, "nopass": {Kind: 3}, "resetpass": {Kind: 4}, "resetkeys": {Kind: 11},
		"resetchannels": {Kind: 13}, "reset": {Kind: 14},
		"allcommands": {Kind: 8, Mask: all}, "nocommands": {Kind: 9, Mask: all},
		"allkeys": keys("*", true, true), "allchannels": {Kind: 12, S: "*"},
	}
}

func records(t *testing.T) []string {
	t.Helper()
	var l []string
	for _, salt := range []string{"", "s", "saltsalt", strings.Repeat("\xff", 32)} {
		for _, rounds := range []int{1, 2, 64} {
			r, ok := mac.Record("pw", []byte(salt), rounds)
			if !ok {
				t.Fatal("no record of", salt, rounds)
			}
			l = append(l, r)
		}
	}
	return l
}

// P17.1: the words that nothing is told behind, and nothing that is nearly one of them.
func TestWholeWords(t *testing.T) {
	for word, want := range fixed() {
		is(t, word, want)
		none(t, strings.ToUpper(word), strings.ToUpper(word[:1])+word[1:], word+" ", " "+word, word+"\r\n", word+"x", word+"~*", "x"+word, word[:len(word)-1]+"_")
		none(t, "+"+word, "-"+word, "#"+word, "!"+word, "%"+word, "%R"+word, "@"+word)
	}
	none(t, "", " ", "o", "n", "of", "pass", "hash", "all", "no", "rese", "resetx", "resetcommands", "resethash", "clearselectors", "sanitize-payload", "allkey", "nokeys", "nochannels", "noon", "onoff", "on off", "get", "@all", "*", "\x00", "\xff")
}

// P17.1: nothing but what begins with one of these bytes, or is a word of those above, is a rule.
func TestFirstBytes(t *testing.T) {
	for c := range 256 {
		head := string([]byte{byte(c)})
		none(t, "x"+head+"~*", "\x00"+head)
		if !strings.Contains(">#!+-~%&", head) {
			none(t, head, head+"a", head+"*", head+"get", head+"@all", head+"~*", head+records(t)[0])
		}
	}
}

// P17.1: a > and any text, the empty one and one of any bytes too.
func TestPasswords(t *testing.T) {
	for _, s := range []string{"", "pw", ">", ">>pw", " ", "a b", "on", "~*", "#", "\x00", "\r\n", "\xff\xfe", "\u00e9", strings.Repeat("p", 5000)} {
		is(t, ">"+s, api.Rule{Kind: 5, S: s})
	}
	for c := range 256 {
		s := string([]byte{byte(c)})
		is(t, ">"+s, api.Rule{Kind: 5, S: s})
	}
	none(t, " >pw", "pw", "<pw", "pw>")
}

// P17.1: a # or a ! and a record.
func TestRecords(t *testing.T) {
	for _, r := range records(t) {
		is(t, "#"+r, api.Rule{Kind: 6, S: r})
		is(t, "!"+r, api.Rule{Kind: 7, S: r})
		none(t, r, "##"+r, "#!"+r, "!#"+r, "+"+r, "-"+r)
		for _, spoilt := range []string{" " + r, r + " ", r + "0", r + ":", r[:len(r)-1], r[:len(r)-2], "0" + r, "+" + r, strings.ToUpper(r[:len(r)-1]) + "F", r[:len(r)-1] + "g", strings.Replace(r, ":", "", 1), strings.Replace(r, ":", ";", 1)} {
			none(t, "#"+spoilt, "!"+spoilt)
		}
	}
	sum := strings.Repeat("0", 64)
	is(t, "#1::"+sum, api.Rule{Kind: 6, S: "1::" + sum})
	is(t, "!64:"+sum+":"+sum, api.Rule{Kind: 7, S: "64:" + sum + ":" + sum})
	for _, s := range []string{"", ":", "::", "pw", "0::" + sum, "65::" + sum, "-1::" + sum, "01::" + sum, "::" + sum, "1:0:" + sum, "1:" + sum + "00:" + sum, "1::" + sum[2:], "1::" + sum + "00", sum, "1:" + sum, "1:::" + sum} {
		none(t, "#"+s, "!"+s)
	}
}

// P17.1: a + or a - and a command's name, in small letters alone.
func TestCommands(t *testing.T) {
	for id := range table.Count() {
		c, _ := table.At(id)
		is(t, "+"+c.Name, api.Rule{Kind: 8, Mask: 1 << id})
		is(t, "-"+c.Name, api.Rule{Kind: 9, Mask: 1 << id})
		big, turned := strings.ToUpper(c.Name), strings.ToUpper(c.Name[:1])+c.Name[1:]
		last := c.Name[:len(c.Name)-1] + strings.ToUpper(c.Name[len(c.Name)-1:])
		for _, name := range []string{big, turned, last, c.Name + " ", " " + c.Name, c.Name + "x", "@@" + c.Name, "+" + c.Name, "-" + c.Name, c.Name + "|x", c.Name + "\x00"} {
			none(t, "+"+name, "-"+name)
		}
		if _, cat := masks()[c.Name]; !cat {
			none(t, "+@"+c.Name, "-@"+c.Name)
		}
		none(t, c.Name, "+x"+c.Name, "-x"+c.Name)
	}
	is(t, "+get", api.Rule{Kind: 8, Mask: 1})
	is(t, "-acl", api.Rule{Kind: 9, Mask: 1 << 55})
	none(t, "+", "-", "+all", "-all", "+*", "-*", "+1", "+0", "-1", "+read", "+allcommands", "+nosuch", "+config", "+acl|list")
}

// P17.1: a +@ or a -@ and a category's name, all too.
func TestCategories(t *testing.T) {
	for name, mask := range masks() {
		is(t, "+@"+name, api.Rule{Kind: 8, Mask: mask})
		is(t, "-@"+name, api.Rule{Kind: 9, Mask: mask})
		for _, s := range []string{"@" + strings.ToUpper(name), "@" + strings.ToUpper(name[:1]) + name[1:], "@@" + name, "@ " + name, "@" + name + " ", "@" + name + "s", "@" + name[1:], " @" + name, "+@" + name} {
			none(t, "+"+s, "-"+s)
		}
		none(t, "@"+name, "@+"+name, "@-"+name)
	}
	if len(masks()) != len(table.Cats())+1 {
		t.Error("categories", table.Cats())
	}
	none(t, "+@", "-@", "+@get", "-@acl", "+@none", "+@*", "+@sorted", "+@text")
}

// P17.1: a ~, with its rights ahead or none, and a pattern.
func TestKeys(t *testing.T) {
	for _, pat := range []string{"*", "a", "a*", "~", "~~", "~*", "[a-c]?\\*", "!", "%R~", "%R~a", "@all", ">", "A", "on", strings.Repeat("k", 5000), "user:*"} {
		is(t, "~"+pat, keys(pat, true, true))
		is(t, "%R~"+pat, keys(pat, true, false))
		is(t, "%W~"+pat, keys(pat, false, true))
		is(t, "%RW~"+pat, keys(pat, true, true))
		for _, head := range []string{"%", "%r", "%w", "%rw", "%WR", "%RR", "%WW", "%RWR", "%RW ", "% R", "%R%W", "R", "W", "RW", "%%R", " ", "x", "%X", "%\x00", "%R\n"} {
			none(t, head+"~"+pat)
		}
	}
	none(t, "~", "%R~", "%W~", "%RW~", "%", "%R", "%W", "%RW", "%R*", "%Ra", "%RWa", "%a", "%*", "R~", "%~", "%R ~a")
}

// P17.1: a & and a pattern.
func TestChannels(t *testing.T) {
	for _, pat := range []string{"*", "a", "news.*", "&", "&&*", "~", "[^a]", "!", "~*", strings.Repeat("c", 5000)} {
		is(t, "&"+pat, api.Rule{Kind: 12, S: pat})
		none(t, " &"+pat, "%R&"+pat, "%&"+pat, "%W&"+pat)
	}
	none(t, "&", "%R&")
}

// P17.1: a pattern is a byte at least, and each is from 33 to 126, wherever it stands.
func TestPatterns(t *testing.T) {
	for c := range 256 {
		b := string([]byte{byte(c)})
		for _, pat := range []string{b, "a" + b, b + "a", "a" + b + "a", b + b, "*" + b} {
			if c < 33 || c > 126 {
				none(t, "~"+pat, "%R~"+pat, "%W~"+pat, "%RW~"+pat, "&"+pat)
				continue
			}
			is(t, "~"+pat, keys(pat, true, true))
			is(t, "%R~"+pat, keys(pat, true, false))
			is(t, "%W~"+pat, keys(pat, false, true))
			is(t, "%RW~"+pat, keys(pat, true, true))
			is(t, "&"+pat, api.Rule{Kind: 12, S: pat})
		}
	}
	none(t, "~\u00e9", "~a b", "&a b", "~a\n", "&a\r\n", "~ ", "& ")
}

// P17.1: the words that stand for others are these.
func TestOtherNames(t *testing.T) {
	for word, other := range map[string]string{"allcommands": "+@all", "nocommands": "-@all", "allkeys": "~*", "allchannels": "&*"} {
		want, ok := rule.Parse(other)
		if !ok {
			t.Error(other, "is none")
		}
		is(t, word, want)
	}
}

// told is the word of a rule, worked out from what the rule says, and whether it may be; it tells one of those that may be.
func told(r api.Rule) (string, bool) {
	for word, f := range fixed() {
		if f == r && r.S == "" && r.Mask == 0 {
			return word, true
		}
	}
	if r.Mask != 0 {
		return commands(r)
	}
	heads := map[uint8]string{5: ">", 6: "#", 7: "!", 12: "&"}
	head, ok := heads[r.Kind]
	switch {
	case ok && !r.R && !r.W:
		return head + r.S, true
	case r.Kind != 10:
		return "", false
	}
	switch {
	case r.R && r.W:
		return "~" + r.S, true
	case r.R:
		return "%R~" + r.S, true
	case r.W:
		return "%W~" + r.S, true
	}
	return "", false
}

func commands(r api.Rule) (string, bool) {
	sign, ok := map[uint8]string{8: "+", 9: "-"}[r.Kind]
	if !ok || r.S != "" || r.R || r.W {
		return "", false
	}
	for name, mask := range masks() {
		if mask == r.Mask {
			return sign + "@" + name, true
		}
	}
	for id := range table.Count() {
		if c, _ := table.At(id); r.Mask == 1<<id {
			return sign + c.Name, true
		}
	}
	return "", false
}

// P17.2: of each of many words there is one rule, always the same, or none; what is one has just what its kind names, and its word is told again.
func TestOneRule(t *testing.T) {
	pieces := []string{"+", "-", "@", "~", "%", "R", "W", "&", ">", "#", "!", "get", "set", "acl", "all", "read", "on", "off", "reset", "keys", "channels", "commands", "no", "pass", "*", "a", "A", " ", "\x7f", "1::" + strings.Repeat("0", 64)}
	random := rand.New(rand.NewSource(17))
	rules := 0
	for range 200000 {
		var b strings.Builder
		for range random.Intn(5) {
			b.WriteString(pieces[random.Intn(len(pieces))])
		}
		word := b.String()
		r, ok := rule.Parse(word)
		again, okAgain := rule.Parse(word)
		if r != again || ok != okAgain {
			t.Fatalf("Parse(%q) = %+v, %v, and then %+v, %v", word, r, ok, again, okAgain)
		}
		if !ok {
			none(t, word)
			continue
		}
		rules++
		short, may := told(r)
		if !may {
			t.Fatalf("Parse(%q) = %+v, which no word is", word, r)
		}
		is(t, short, r)
	}
	if rules < 10000 {
		t.Error("just", rules, "rules")
	}
}

// P17.2: two unlike words are one rule just where one stands for the other.
func TestUnlikeWords(t *testing.T) {
	var words []string
	for word := range fixed() {
		words = append(words, word)
	}
	for name := range masks() {
		words = append(words, "+@"+name, "-@"+name)
	}
	for id := range table.Count() {
		c, _ := table.At(id)
		words = append(words, "+"+c.Name, "-"+c.Name)
	}
	words = append(words, ">", ">a", ">b", "#"+records(t)[0], "!"+records(t)[0], "~*", "~a", "%R~*", "%W~*", "&*", "&a")
	seen := map[api.Rule]string{}
	pairs := map[string]string{"allcommands": "+@all", "nocommands": "-@all", "allkeys": "~*", "allchannels": "&*", "+acl": "+@admin", "-acl": "-@admin"}
	for _, word := range words {
		r, ok := rule.Parse(word)
		if !ok {
			t.Errorf("%q is none", word)
		}
		if other, had := seen[r]; had && pairs[word] != other && pairs[other] != word {
			t.Errorf("%q and %q are one rule", word, other)
		}
		seen[r] = word
	}
}

// P17.1: what num, mac and table tell of a word is what is asked of it.
func TestLowerLayers(t *testing.T) {
	random := rand.New(rand.NewSource(71))
	for range 20000 {
		b := make([]byte, random.Intn(4))
		for i := range b {
			b[i] = byte(28 + random.Intn(104))
		}
		s := string(b)
		for word, want := range map[string]bool{"~" + s: num.Word(s), "&" + s: num.Word(s), "#" + s: mac.Right(s), "!" + s: mac.Right(s), ">" + s: true} {
			if _, ok := rule.Parse(word); ok != want {
				t.Errorf("Parse(%q) tells %v", word, ok)
			}
		}
	}
}
