package lex

import (
	"errors"
	"math"
	"math/big"
	"regexp"
	"slices"
	"strings"
	"testing"
	"unsafe"

	"tautochrone/api"
)

func keyWords() []string {
	return strings.Fields("public secret lock by thread if else loop take give add fence output local pick")
}

func signs() []string {
	return strings.Fields("; = [ ] { } ( ) , + - * & | ^ < ~ << >> ==")
}

// checkTokens wants those tokens, behind them End at the text's end, and no error.
func checkTokens(t *testing.T, s string, want ...Token) {
	t.Helper()
	ts, err := Cut(s)
	if err != nil {
		t.Errorf("Cut(%.40q): %v", s, err)
		return
	}
	if want = append(want, Token{End, "", 0, len(s)}); !slices.Equal(ts, want) {
		t.Errorf("Cut(%.40q) = %v, not %v", s, ts, want)
	}
}

// checkWrong wants that error at that place, in both of its ways, and nothing beside it.
func checkWrong(t *testing.T, s string, no api.Errno, at int) {
	t.Helper()
	ts, err := Cut(s)
	var f *api.Fault
	if !errors.Is(err, no) || !errors.As(err, &f) || f.At != at {
		t.Errorf("Cut(%.40q): %v, not %v at %d", s, err, no, at)
	}
	if len(ts) != 0 {
		t.Errorf("Cut(%.40q): %d tokens beside the error", s, len(ts))
	}
}

func TestKeys(t *testing.T) {
	first := Keys()
	if !slices.Equal(first, keyWords()) {
		t.Fatalf("Keys() = %q", first)
	}
	clear(first)
	if again := Keys(); !slices.Equal(again, keyWords()) {
		t.Errorf("Keys() = %q, once an earlier answer was changed", again)
	}
	checkTokens(t, "if", Token{Key, "if", 0, 0})
}

func TestNothing(t *testing.T) {
	for _, s := range []string{"", " ", "\t", "\n", "\r", " \t\r\n\n ", "#", "##", "# a 1 ; $", "#\n", "#\n#", " # x \n\t# y \r\n", "#\x00\xff$A>\r2a"} {
		checkTokens(t, s)
	}
}

func TestBlanksPart(t *testing.T) {
	for _, b := range []string{" ", "\t", "\n", "\r", "\r\n", "#\n", "#x\n", " #$ 2a\r \n", "# # #\n", "#\n#\n"} {
		n := len(b)
		checkTokens(t, "a"+b+"b", Token{Word, "a", 0, 0}, Token{Word, "b", 0, 1 + n})
		checkTokens(t, "1"+b+"2", Token{Digits, "1", 1, 0}, Token{Digits, "2", 2, 1 + n})
		checkTokens(t, "1"+b+"a", Token{Digits, "1", 1, 0}, Token{Word, "a", 0, 1 + n})
		checkTokens(t, "<"+b+"<", Token{Sign, "<", 0, 0}, Token{Sign, "<", 0, 1 + n})
		checkTokens(t, "="+b+"=", Token{Sign, "=", 0, 0}, Token{Sign, "=", 0, 1 + n})
		checkTokens(t, b+"if"+b, Token{Key, "if", 0, n})
		checkWrong(t, ">"+b+">", api.ErrLex, 0)
	}
}

// A remark ends at a line feed alone, or with the text.
func TestRemarks(t *testing.T) {
	checkTokens(t, "a1<<2 # x", Token{Word, "a1", 0, 0}, Token{Sign, "<<", 0, 2}, Token{Digits, "2", 2, 4})
	checkTokens(t, "a#b", Token{Word, "a", 0, 0})
	checkTokens(t, "a#b\rc;\td", Token{Word, "a", 0, 0})
	checkTokens(t, "a#b\nc", Token{Word, "a", 0, 0}, Token{Word, "c", 0, 4})
	checkTokens(t, "2#a", Token{Digits, "2", 2, 0})
	checkTokens(t, "<#<\n<", Token{Sign, "<", 0, 0}, Token{Sign, "<", 0, 4})
	checkTokens(t, "#\xe2\x80\xa8a\u0085b\n_", Token{Word, "_", 0, 9})
	checkWrong(t, "#a\n$", api.ErrLex, 3)
}

func TestWords(t *testing.T) {
	for _, w := range []string{"a", "z", "_", "__", "_1", "a1", "x_0_y", "abcdefghijklmnopqrstuvwxyz_0123456789", "z9", "word", "end", "halt", "lex"} {
		checkTokens(t, w, Token{Word, w, 0, 0})
		checkTokens(t, " "+w+";", Token{Word, w, 0, 1}, Token{Sign, ";", 0, 1 + len(w)})
	}
}

func TestKeyWords(t *testing.T) {
	for _, k := range keyWords() {
		n := len(k)
		checkTokens(t, k, Token{Key, k, 0, 0})
		checkTokens(t, "("+k+")", Token{Sign, "(", 0, 0}, Token{Key, k, 0, 1}, Token{Sign, ")", 0, 1 + n})
		for _, w := range []string{k + "_", k + "0", k + "9", k + "s", "_" + k, "x" + k, k + k, k[:n-1]} {
			checkTokens(t, w, Token{Word, w, 0, 0})
		}
		checkWrong(t, strings.ToUpper(k[:1])+k[1:], api.ErrLex, 0)
	}
}

func TestDigits(t *testing.T) {
	for s, n := range map[string]uint64{
		"0": 0, "1": 1, "9": 9, "10": 10, "007": 7, "000": 0, "010": 10, "0123456789": 123456789,
		"4294967296": 1 << 32, "9223372036854775807": math.MaxInt64, "9223372036854775808": 1 << 63,
		"18446744073709551610": math.MaxUint64 - 5, "18446744073709551615": math.MaxUint64,
		"00018446744073709551615": math.MaxUint64, strings.Repeat("0", 1000): 0, strings.Repeat("0", 1000) + "42": 42,
	} {
		checkTokens(t, s, Token{Digits, s, n, 0})
		checkTokens(t, "\n"+s+";", Token{Digits, s, n, 1}, Token{Sign, ";", 0, 1 + len(s)})
	}
	checkTokens(t, "-1", Token{Sign, "-", 0, 0}, Token{Digits, "1", 1, 1})
}

func TestDigitsTooGreat(t *testing.T) {
	for _, s := range []string{"18446744073709551616", "18446744073709551620", "18446744073709551700", "20000000000000000000", "36893488147419103232", "99999999999999999999", "100000000000000000000", "00018446744073709551616", "184467440737095516150", strings.Repeat("9", 1000)} {
		checkWrong(t, s, api.ErrLex, 0)
		checkWrong(t, "a = "+s+"; $", api.ErrLex, 4)
	}
}

func TestLetterBehindDigits(t *testing.T) {
	for c := range 256 {
		s := "; 12" + string([]byte{byte(c)})
		switch b := byte(c); {
		case b == '_' || b >= 'a' && b <= 'z':
			checkWrong(t, s, api.ErrLex, 2)
		case b >= '0' && b <= '9':
			checkTokens(t, s, Token{Sign, ";", 0, 0}, Token{Digits, s[2:], 120 + uint64(b-'0'), 2})
		case strings.IndexByte(" \t\n\r#", b) >= 0:
			checkTokens(t, s, Token{Sign, ";", 0, 0}, Token{Digits, "12", 12, 2})
		case slices.Contains(signs(), s[4:]):
			checkTokens(t, s, Token{Sign, ";", 0, 0}, Token{Digits, "12", 12, 2}, Token{Sign, s[4:], 0, 4})
		default:
			checkWrong(t, s, api.ErrLex, 4)
		}
	}
	checkWrong(t, "2a", api.ErrLex, 0)
	checkWrong(t, "00a", api.ErrLex, 0)
	checkWrong(t, "1 2if", api.ErrLex, 2)
	checkWrong(t, "0x10", api.ErrLex, 0)
	checkWrong(t, "1_000", api.ErrLex, 0)
	checkWrong(t, "99999999999999999999z", api.ErrLex, 0)
}

func TestSigns(t *testing.T) {
	for _, s := range signs() {
		checkTokens(t, s, Token{Sign, s, 0, 0})
		checkTokens(t, "a"+s+"1", Token{Word, "a", 0, 0}, Token{Sign, s, 0, 1}, Token{Digits, "1", 1, 1 + len(s)})
	}
}

func TestLongestSign(t *testing.T) {
	for s, want := range map[string]string{
		"<<<": "<< <", "<<<<": "<< <<", "<<=": "<< =", "<=": "< =", "=<": "= <", "<==": "< ==", "<<==": "<< ==",
		"===": "== =", "====": "== ==", ">>==": ">> ==", ">>>>": ">> >>", "=>>": "= >>", "==<<": "== <<", "~~": "~ ~",
		"++": "+ +", "--": "- -", "&&": "& &", "||": "| |", "**": "* *", "[[]]": "[ [ ] ]", ";=[]{}(),+-*&|^<~": "; = [ ] { } ( ) , + - * & | ^ < ~",
	} {
		var ts []Token
		at := 0
		for _, w := range strings.Fields(want) {
			ts = append(ts, Token{Sign, w, 0, at})
			at += len(w)
		}
		checkTokens(t, s, ts...)
	}
	for s, at := range map[string]int{">": 0, ">=": 0, "> >": 0, ">>>": 2, "<>": 1, "=>": 1, "<>>": -1} {
		if at < 0 {
			checkTokens(t, s, Token{Sign, "<", 0, 0}, Token{Sign, ">>", 0, 1})
			continue
		}
		checkWrong(t, s, api.ErrLex, at)
	}
}

// Each byte by itself, behind a word, and behind a sign that is not part of a longer one.
func TestEachByte(t *testing.T) {
	begins := " \t\n\r#abcdefghijklmnopqrstuvwxyz_0123456789;=[]{}(),+-*&|^<~"
	for c := range 256 {
		b := string([]byte{byte(c)})
		if strings.Contains(begins, b) {
			if ts, err := Cut(b); err != nil || ts[len(ts)-1] != (Token{End, "", 0, 1}) {
				t.Errorf("Cut(%q) = %v, %v", b, ts, err)
			}
			continue
		}
		checkWrong(t, b, api.ErrLex, 0)
		checkWrong(t, "ab"+b, api.ErrLex, 2)
		checkWrong(t, "if"+b+"x", api.ErrLex, 2)
		checkWrong(t, "1 ;"+b+";", api.ErrLex, 3)
	}
}

func TestFirstWrong(t *testing.T) {
	for s, at := range map[string]int{
		"$ 2a": 0, "2a $": 0, "a 2b 3c": 2, "; > $": 2, "99999999999999999999 $": 0, "1 $ 99999999999999999999": 2,
		"a\n#$\nA 2a": 5, "thread { a = 1a; b = $; }": 13, "x\x00\x01": 1, "\u00e4": 0, "a\u00e4": 1, "\ufeffa": 0, "1.5": 1, "a!=b": 1, "a/*": 1,
	} {
		checkWrong(t, s, api.ErrLex, at)
	}
}

func TestWholeText(t *testing.T) {
	s := "secret key; # door\nthread { if (key==7) { r[0]=~1; } }"
	var ts []Token
	at := 0
	for _, w := range strings.Fields("secret key ; thread { if ( key == 7 ) { r [ 0 ] = ~ 1 ; } }") {
		if w == "thread" {
			at = strings.IndexByte(s, '\n')
		}
		at += strings.Index(s[at:], w)
		kind, n := Sign, uint64(0)
		switch {
		case slices.Contains(keyWords(), w):
			kind = Key
		case w == "key" || w == "r":
			kind = Word
		case w[0] >= '0' && w[0] <= '9':
			kind, n = Digits, uint64(w[0]-'0')
		}
		ts = append(ts, Token{kind, w, n, at})
		at += len(w)
	}
	checkTokens(t, s, ts...)
}

func TestLongestText(t *testing.T) {
	const n = 65536
	word := strings.Repeat("a", n)
	checkTokens(t, word, Token{Word, word, 0, 0})
	one := strings.Repeat("0", n-1) + "1"
	checkTokens(t, one, Token{Digits, one, 1, 0})
	checkTokens(t, strings.Repeat(" ", n))
	checkTokens(t, strings.Repeat("#", n))
	checkTokens(t, strings.Repeat("\n", n-2)+"if", Token{Key, "if", 0, n - 2})
	checkWrong(t, strings.Repeat("9", n), api.ErrLex, 0)
	checkWrong(t, strings.Repeat("1", n-1)+"a", api.ErrLex, 0)
	checkWrong(t, strings.Repeat(";", n-1)+"$", api.ErrLex, n-1)
	checkWrong(t, strings.Repeat("=", n-1)+">", api.ErrLex, n-1)
	ts, err := Cut(strings.Repeat(";", n))
	if err != nil || len(ts) != n+1 || ts[n-1] != (Token{Sign, ";", 0, n - 1}) || ts[n] != (Token{End, "", 0, n}) {
		t.Errorf("Cut of %d signs: %d tokens, %v", n, len(ts), err)
	}
}

// The limit is told ahead of all else that is wrong.
func TestTooLong(t *testing.T) {
	for _, n := range []int{65537, 65538, 1 << 17, 1 << 20} {
		for _, s := range []string{"a", " ", "#", "\n", ";", "1", "$", ">", "\x00"} {
			checkWrong(t, strings.Repeat(s, n), api.ErrLimit, 0)
		}
		checkWrong(t, strings.Repeat(" ", n-1)+"$", api.ErrLimit, 0)
	}
}

// begins are the things with which a text may begin, blanks first, then by kinds; End has none.
func begins() [5]*regexp.Regexp {
	return [5]*regexp.Regexp{
		End:    regexp.MustCompile(`^([ \t\n\r]|#[^\n]*)+`),
		Word:   regexp.MustCompile(`^[a-z_][a-z_0-9]*`),
		Key:    regexp.MustCompile(`^(` + strings.Join(keyWords(), "|") + `)$`),
		Digits: regexp.MustCompile(`^[0-9]+`),
		Sign:   regexp.MustCompile(`^(<<|>>|==|[;=\[\]{}(),+*&|^<~-])`),
	}
}

// byPatterns cuts a text by patterns, and numbers without a bound; the place is -1 where nothing is wrong.
func byPatterns(s string, of [5]*regexp.Regexp) ([]Token, int) {
	var ts []Token
	for at := len(of[End].FindString(s)); at < len(s); {
		t := Token{At: at}
		for _, k := range []Kind{Word, Digits, Sign} {
			if w := of[k].FindString(s[at:]); w != "" {
				t.Kind, t.Text = k, w
			}
		}
		end := at + len(t.Text)
		switch {
		case t.Kind == End:
			return nil, at
		case t.Kind == Word && of[Key].MatchString(t.Text):
			t.Kind = Key
		case t.Kind == Digits:
			n, _ := new(big.Int).SetString(t.Text, 10)
			if !n.IsUint64() || of[Word].MatchString(s[end:]) {
				return nil, at
			}
			t.Value = n.Uint64()
		}
		ts = append(ts, t)
		at = end + len(of[End].FindString(s[end:]))
	}
	return append(ts, Token{At: len(s)}), -1
}

func checkByPatterns(t *testing.T, s string, of [5]*regexp.Regexp) {
	t.Helper()
	want, at := byPatterns(s, of)
	if at >= 0 {
		checkWrong(t, s, api.ErrLex, at)
		return
	}
	checkTokens(t, s, want[:len(want)-1]...)
}

// All short texts of bytes that matter to one another.
func TestShortTexts(t *testing.T) {
	of := begins()
	layer := []string{""}
	for range 4 {
		var longer []string
		for _, s := range layer {
			for _, c := range []byte("bif_09<>=;# \n$\xff") {
				longer = append(longer, s+string([]byte{c}))
			}
		}
		for _, s := range longer {
			checkByPatterns(t, s, of)
		}
		layer = longer
	}
}

// Texts of whole pieces, each three of them side by side.
func TestPieces(t *testing.T) {
	pieces := append(keyWords(), signs()...)
	pieces = append(pieces, "a", "x9_", "0", "00", "18446744073709551615", "18446744073709551616", ">", "A", " ", "\n", "\r", "#", "#\n")
	of := begins()
	for _, a := range pieces {
		for _, b := range pieces {
			for _, c := range pieces {
				checkByPatterns(t, a+b+c, of)
			}
		}
	}
}

func FuzzCut(f *testing.F) {
	for _, s := range []string{"", "a1<<2 # x", "2a", ">", "a_1 007<<=#x\n if==", "18446744073709551616", "\x00\xff"} {
		f.Add(s)
	}
	of := begins()
	f.Fuzz(func(t *testing.T, s string) {
		if len(s) <= api.MaxText {
			checkByPatterns(t, s, of)
		}
	})
}

// What is answered shares no memory with the text, nor with an earlier answer.
func TestNewMemory(t *testing.T) {
	const s = "abc if 123 << ;"
	memory := []byte(s)
	ts, err := Cut(unsafe.String(&memory[0], len(memory)))
	if err != nil || string(memory) != s {
		t.Fatalf("Cut made %q of %q, %v", memory, s, err)
	}
	want := slices.Clone(ts)
	for i := range want {
		want[i].Text = strings.Clone(want[i].Text)
	}
	for i := range memory {
		memory[i] = '?'
	}
	if !slices.Equal(ts, want) {
		t.Errorf("tokens became %v, once the text's memory was changed", ts)
	}
	clear(ts)
	checkTokens(t, s, want[:len(want)-1]...)
}

// The table of keys is made when a word first asks, and once.
func TestTableOnce(t *testing.T) {
	keys := new(keyTable)
	if _, ok := read("1;", 0, keys); !ok || keys.kinds != nil {
		t.Errorf("the table of keys was made for digits: %v", keys.kinds)
	}
	if k := keys.kind("if"); k != Key || len(keys.kinds) != len(keyWords()) {
		t.Errorf("kind of if: %d, with %d keys", k, len(keys.kinds))
	}
	keys.kinds["mark"] = Key
	if k := keys.kind("mark"); k != Key {
		t.Error("the table of keys was made anew")
	}
}
