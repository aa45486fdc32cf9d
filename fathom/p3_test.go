package fathom

import (
	"strings"
	"testing"

	"fathom/api"
)

// refusedMarked asks for an error at the ^ of each text.
func refusedMarked(t *testing.T, e api.Errno, texts ...string) {
	t.Helper()
	for _, m := range texts {
		text, at := marked(m)
		refused(t, text, e, at)
	}
}

func TestP3DocumentsErrors(t *testing.T) {
	refused(t, "1 else", api.ErrNest, 2)
	refused(t, ": a b ;", api.ErrWord, 4)
	refused(t, ": 5 ;", api.ErrName, 2)
	refused(t, "if 1", api.ErrNest, 4)
	refused(t, "variable x variable x", api.ErrName, 20)
	refused(t, "7 x", api.ErrWord, 2)
}

func TestP3Long(t *testing.T) {
	for _, s := range []string{" ", "1 ", "x", "\n", "if "} {
		refused(t, strings.Repeat(s, 2001)[:2001], api.ErrLong, 0)
	}
	refused(t, strings.Repeat("1 ", 100000), api.ErrLong, 0)
	// Bytes count, not characters.
	refused(t, strings.Repeat("\u00e4", 1001), api.ErrLong, 0)
	for _, text := range []string{strings.Repeat(" ", 2000), strings.Repeat("1 ", 1000), strings.Repeat("0", 2000)} {
		compiled(t, text)
	}
	refused(t, strings.Repeat(" ", 1999)+"x", api.ErrWord, 1999)
	refused(t, strings.Repeat("x", 2000), api.ErrWord, 0)
	refused(t, "if"+strings.Repeat(" ", 1998), api.ErrNest, 2000)
	refused(t, ":"+strings.Repeat("\n", 1999), api.ErrName, 2000)
}

func TestP3Word(t *testing.T) {
	refusedMarked(t, api.ErrWord,
		"^x", "  \n^x", "1 2 ^x 3", ": a ^b ; : b ;", "^b : b ;", ": a ^a ;", ": a if ^a then ;", "^y variable y", "^z constant z 5",
		"^recurse", "if ^recurse then", ": a ; ^recurse", ": a recurse ; ^recurse", "variable x ^recurse",
		"^Dup", "^IF", "^Variable", "^::", "^;;", "^+5", "^+0", "^--5", "^5-", "^1_000", "^0x1", "^1.5",
		"^9223372036854775808", "^-9223372036854775809", "9223372036854775807 ^9223372036854775808", "-9223372036854775808 ^-9223372036854775809",
		"^99999999999999999999", "^-99999999999999999999", "^\t", "^1\t2", "1 ^\r\n2", "^\x00", "^\xff", "1 ^\u00a0 2",
		"constant c 5 ^C", ": a ; ^A", "if ^x then", ": a ^x", "constant a 5 ^-a", "1 ^2+")
}

func TestP3Name(t *testing.T) {
	for _, token := range append(strings.Fields(everyToken), "5", "-5", "007", "-0", "9223372036854775807", "-9223372036854775808", "taken", "cell", "ten") {
		ahead := ": taken ; variable cell constant ten 10 "
		for _, opener := range []string{": ", "variable ", "constant "} {
			refusedMarked(t, api.ErrName, ahead+opener+"^"+token, ahead+opener+"^"+token+" 5 ;")
		}
	}
	for _, opener := range []string{":", "variable", "constant"} {
		refusedMarked(t, api.ErrName, opener+"^", opener+" ^", opener+" \n ^", "1 "+opener+"^")
	}
}

func TestP3ConstantsNumber(t *testing.T) {
	refusedMarked(t, api.ErrName,
		"constant x^", "constant x ^", "constant x\n\n^", "constant x ^y", "constant x ^x", "constant x ^dup", "constant x ^:", "constant x ^;",
		"constant x ^+5", "constant x ^--5", "constant x ^-", "constant x ^5x",
		"constant x ^9223372036854775808", "constant x ^-9223372036854775809", "constant y 5 constant x ^y", "variable y constant x ^y")
}

func TestP3NamesThatMayBe(t *testing.T) {
	for _, name := range []string{
		"--", "+5", "5x", "-x", "99999999999999999999", "9223372036854775808", "-9223372036854775809", "DUP", "If", "::", ";;", "i.", "+-",
		"\t", "\r", "\x00", "\xff", "\u00a0", "NAME", "lit", "jump", "halt", "j", ">", "ret", strings.Repeat("n", 900),
	} {
		compiled(t, ": "+name+" ; "+name)
		compiled(t, "variable "+name+" "+name)
		compiled(t, "constant "+name+" 5 "+name)
	}
	// Each of the three kinds of names is an element of a definition and of the main part.
	compiled(t, ": a ; variable b constant c 1 : d a b c ; d")
}

func TestP3NestAtAClosingToken(t *testing.T) {
	refusedMarked(t, api.ErrNest,
		"^then", "^else", "^until", "^while", "^repeat", "^loop", "^;",
		": a ^then ;", ": a ^else ;", ": a ^until ;", ": a ^while ;", ": a ^repeat ;", ": a ^loop ;",
		"if else ^else", "if ^until", "if ^while", "if ^repeat", "if ^loop", "if else ^until", "if else ^loop", "if else ^while", "if else ^repeat",
		"begin ^then", "begin ^else", "begin ^repeat", "begin ^loop",
		"begin while ^until", "begin while ^while", "begin while ^then", "begin while ^else", "begin while ^loop",
		"do ^then", "do ^else", "do ^until", "do ^while", "do ^repeat",
		"if begin ^then until", "begin if ^until then", "do if ^loop then", "if do ^then loop", "begin while if ^repeat then", "begin if ^while then",
		"if then ^then", "if else then ^then", "if then ^else", "begin until ^until", "begin while repeat ^repeat", "begin while repeat ^until", "do loop ^loop",
		": a ; ^;", "if ^;", "begin ^;", ": a if ^;", ": a if else ^;", ": a begin ^;", ": a begin while ^;", ": a do ^;", ": a if then do ^;")
}

func TestP3NestAtADefinition(t *testing.T) {
	for _, opener := range []string{": b", "variable b", "constant b 5", ":", "variable", "constant", ": 5"} {
		refusedMarked(t, api.ErrNest,
			"if ^"+opener, "if else ^"+opener, "begin ^"+opener, "begin while ^"+opener, "do ^"+opener,
			": a ^"+opener, ": a if ^"+opener, ": a begin while ^"+opener, ": a if then ^"+opener)
	}
}

func TestP3NestAtTheEnd(t *testing.T) {
	for _, opened := range []string{"if", "if 1 else 2", "begin", "begin while", "do", ": a", ": a 1 if then", ": a if", "if then begin", "do if then", "if begin until"} {
		refusedMarked(t, api.ErrNest, opened+"^", opened+" ^", opened+" \n\n^", opened+" 1^")
	}
}

// An error hangs on what stands up to its token alone: ahead of it there is none but perhaps at the end, and what
// stands behind it changes nothing.
func TestP3TheFirstErrorThatIsMet(t *testing.T) {
	tokens := strings.Fields(everyToken + " a b 5 -7 ; then until loop repeat : a : b variable c constant d 1 if begin do while")
	c := &chance{3}
	inside := 0
	for range 20000 {
		text := soup(c, tokens)
		_, e, at := Compile(text, api.Options{})
		if e == api.OK || at == len(text) {
			continue
		}
		inside++
		if x, ahead, place := Compile(text[:at], api.Options{}); x == nil && place != at {
			t.Fatalf("P3: %q: error %d at %d, but ahead of it %d at %d", text, e, at, ahead, place)
		}
		token := text[at:]
		if gap := strings.IndexAny(token, " \n"); gap >= 0 {
			token = token[:gap]
		}
		refused(t, text[:at]+token, e, at)
		refused(t, text[:at]+token+"\n"+soup(c, tokens), e, at)
	}
	if inside < 5000 {
		t.Fatalf("only %d texts with an error inside", inside)
	}
}

func TestP3OptionsMakeNoDifference(t *testing.T) {
	tokens := strings.Fields(everyToken + " a b 5 -7 0 1 1 2 dup dup drop swap + 99999999999999999999 ; then until loop : a : b if begin do while repeat variable x constant y 3")
	c := &chance{16}
	count := map[api.Errno]int{}
	for range 5000 {
		text := soup(c, tokens)
		x, e, at := Compile(text, api.Options{})
		count[e]++
		if e != api.OK {
			refused(t, text, e, at)
			continue
		}
		if x == nil || at != 0 {
			t.Fatalf("P3: %q: code %v, place %d", text, x != nil, at)
		}
		for _, o := range allOptions() {
			compiledWith(t, text, o)
		}
	}
	for _, e := range []api.Errno{api.OK, api.ErrWord, api.ErrName, api.ErrNest} {
		if count[e] < 100 {
			t.Errorf("%d came out %d times only", e, count[e])
		}
	}
}
