package lexer_test

import (
	"math/big"
	"regexp"
	"slices"
	"strings"
	"testing"

	"fulling/api"
	"fulling/lexer"
)

func name(s string, at int) api.Token {
	return api.Token{Kind: api.TokenName, Text: s, At: at}
}

func number(s string, at int) api.Token {
	return api.Token{Kind: api.TokenNumber, Text: s, At: at}
}

func symbol(s string, at int) api.Token {
	return api.Token{Kind: api.TokenSymbol, Text: s, At: at}
}

func allSymbols() []string {
	return []string{
		">>>", "<<", ">>", "<=", ">=", "==", "!=",
		"+", "-", "*", "/", "%", "&", "|", "^", "~", "!", "<", ">", "=", "?", ":", ";", ",", "(", ")", "{", "}", "[", "]",
	}
}

// excerpt shortens a text for a message.
func excerpt(s string) string {
	if len(s) <= 60 {
		return s
	}
	return s[:60] + ".."
}

func checkTokens(t *testing.T, s string, want ...api.Token) {
	t.Helper()
	if got, err := lexer.Scan(s); !slices.Equal(got, want) || err != (api.Err{}) {
		t.Errorf("Scan(%q) = %v, %v, want %v and no error", excerpt(s), got, err, want)
	}
}

func checkError(t *testing.T, s string, why api.Errno, at int) {
	t.Helper()
	if got, err := lexer.Scan(s); len(got) != 0 || err != (api.Err{Why: why, At: at}) {
		t.Errorf("Scan(%q) = %v, %v, want no tokens and {%d %d}", excerpt(s), got, err, why, at)
	}
}

// 2.1
func TestTextsWithoutTokens(t *testing.T) {
	for _, s := range []string{
		"", " ", "\t", "\n", "\r", " \t\r\n \n\n\r", "#", "##", "# a 07 \"\n", "\n#\n#\r\n \t#",
	} {
		checkTokens(t, s)
	}
}

// 2.1
func TestTokensOfAProgram(t *testing.T) {
	checkTokens(t, "array t 4;\nfunc f(a) var x {\n\tx = t[a] # 07\r\n\t+ -1;\n}",
		name("array", 0), name("t", 6), number("4", 8), symbol(";", 9),
		name("func", 11), name("f", 16), symbol("(", 17), name("a", 18), symbol(")", 19), name("var", 21), name("x", 25), symbol("{", 27),
		name("x", 30), symbol("=", 32), name("t", 34), symbol("[", 35), name("a", 36), symbol("]", 37),
		symbol("+", 46), symbol("-", 48), number("1", 49), symbol(";", 50),
		symbol("}", 52))
}

// 2.1
func TestNames(t *testing.T) {
	for _, s := range []string{
		"a", "z", "A", "Z", "_", "__", "a0", "_9", "x_1y", "Az09_", "func", "e5", "_0x", "q07", "abcdefghijklmno", "abcdefghijklmnop",
	} {
		checkTokens(t, s, name(s, 0))
		checkTokens(t, "\n "+s+"\t", name(s, 2))
		checkTokens(t, "("+s+")", symbol("(", 0), name(s, 1), symbol(")", 1+len(s)))
	}
	checkTokens(t, "a b", name("a", 0), name("b", 2))
	checkTokens(t, "a-b", name("a", 0), symbol("-", 1), name("b", 2))
	checkTokens(t, "a 1", name("a", 0), number("1", 2))
}

// 2.1
func TestNamesUpToMaxName(t *testing.T) {
	for _, s := range []string{"a", "Z", "_", "a1", "_9_0"} {
		full := strings.Repeat(s, api.MaxName/len(s))
		checkTokens(t, full, name(full, 0))
		checkTokens(t, full+" "+full, name(full, 0), name(full, api.MaxName+1))
		checkTokens(t, full+"+a", name(full, 0), symbol("+", api.MaxName), name("a", api.MaxName+1))
		for _, more := range []string{"a", "Z", "_", "7"} {
			checkError(t, full+more, api.ErrLimit, 0)
			checkError(t, full+more+"\"", api.ErrLimit, 0)
			checkError(t, "x = "+full+more+";", api.ErrLimit, 4)
		}
		checkError(t, strings.Repeat(full, 100), api.ErrLimit, 0)
	}
	checkError(t, strings.Repeat("a", api.MaxText), api.ErrLimit, 0)
	checkTokens(t, "#"+strings.Repeat("a", 100))
}

// 2.1
func TestNumbers(t *testing.T) {
	for _, s := range []string{
		"0", "1", "9", "10", "100", "42", "1000000", "1000001",
		"999999999999999999", "1000000000000000000", "8999999999999999999",
		"9223372036854775799", "9223372036854775800", "9223372036854775806", "9223372036854775807", "9223372036854775808",
	} {
		checkTokens(t, s, number(s, 0))
		checkTokens(t, "\t"+s+"#", number(s, 1))
		checkTokens(t, "-"+s+";", symbol("-", 0), number(s, 1), symbol(";", 1+len(s)))
	}
	checkTokens(t, "0 0", number("0", 0), number("0", 2))
	checkTokens(t, "1-1", number("1", 0), symbol("-", 1), number("1", 2))
}

// 2.1
func TestInvalidNumbers(t *testing.T) {
	for _, s := range []string{
		"00", "01", "07", "000", "010", "09223372036854775808", "0000000000000000001",
		"9223372036854775809", "9223372036854775810", "9223372036854775900", "9223372036854776000", "9300000000000000000", "9999999999999999999",
		"10000000000000000000", "18446744073709551615", "18446744073709551616", "18446744073709551617", "92233720368547758080",
		strings.Repeat("9", 5000), strings.Repeat("1", api.MaxText), strings.Repeat("0", api.MaxText),
		"1b", "1B", "1_", "1_0", "0_", "0x1", "0b1", "0a", "1e5", "12z4", "1A", "9Z", "1_000",
		"1abcdefghijklmnopqrstuvwxyz", "0" + strings.Repeat("_", 100),
	} {
		checkError(t, s, api.ErrSyntax, 0)
		if len(s) < 100 {
			checkError(t, "a = -"+s+";", api.ErrSyntax, 5)
			checkError(t, s+"\"", api.ErrSyntax, 0)
		}
	}
}

// 2.1
func TestEachSymbol(t *testing.T) {
	for _, s := range allSymbols() {
		checkTokens(t, s, symbol(s, 0))
		checkTokens(t, "a"+s+"1", name("a", 0), symbol(s, 1), number("1", 1+len(s)))
		checkTokens(t, " "+s+" "+s, symbol(s, 1), symbol(s, 2+len(s)))
	}
}

// 2.1
func TestLongestMatchingSymbol(t *testing.T) {
	for _, parts := range [][]string{
		{">>>", ">"}, {">>>", ">>"}, {">>>", ">>>"}, {">>>", ">>>", ">"}, {">>>", "="}, {">>>", "=="}, {">>>", ">="},
		{">>", "="}, {">>", "=="}, {">>", "<"}, {">>", "<<"}, {">=", "="}, {">=", ">"}, {">=", "=="},
		{"<<", "<"}, {"<<", "<<"}, {"<<", "<="}, {"<<", "="}, {"<=", "="}, {"<=", "=="}, {"<=", ">"},
		{"==", "="}, {"==", "=="}, {"==", ">"}, {"==", "!"}, {"!=", "="}, {"!=", "=="}, {"!", "!="}, {"!", "!"},
		{"=", "!"}, {"=", "<"}, {"=", ">"}, {"=", "<<"}, {"=", ">>>"}, {"<", ">"}, {"<", "!="}, {">", "<="},
		{"=", "-"}, {"-", "="}, {"+", "+"}, {"&", "&"}, {"|", "|"}, {"-", "-"}, {"*", "*"}, {"/", "/"}, {"^", "="}, {"~", "="}, {":", "="},
	} {
		var want []api.Token
		at := 0
		for _, part := range parts {
			want = append(want, symbol(part, at))
			at += len(part)
		}
		checkTokens(t, strings.Join(parts, ""), want...)
	}
}

// 2.1
func TestSeparatorsInsideSymbols(t *testing.T) {
	for _, separator := range []string{" ", "\t", "\n", "\r", "#\n"} {
		n := len(separator)
		checkTokens(t, ">"+separator+">>", symbol(">", 0), symbol(">>", 1+n))
		checkTokens(t, ">>"+separator+">", symbol(">>", 0), symbol(">", 2+n))
		checkTokens(t, "!"+separator+"=", symbol("!", 0), symbol("=", 1+n))
		checkTokens(t, "ab"+separator+"c", name("ab", 0), name("c", 2+n))
		checkTokens(t, "12"+separator+"3", number("12", 0), number("3", 2+n))
	}
}

// 2.1
func TestCommentsEndAtALineFeedOrAtTheEnd(t *testing.T) {
	checkTokens(t, "a#b\nc", name("a", 0), name("c", 4))
	checkTokens(t, "a # b", name("a", 0))
	checkTokens(t, "a#", name("a", 0))
	checkTokens(t, "#\na", name("a", 2))
	checkTokens(t, "##a#b\n1", number("1", 6))
	checkTokens(t, "#a\n#b\nc#d", name("c", 6))
	checkTokens(t, "a#b\rc\n", name("a", 0))
	checkTokens(t, "a#b\r\nc", name("a", 0), name("c", 5))
	checkTokens(t, ">#>\n>", symbol(">", 0), symbol(">", 4))
	checkError(t, "#\n07", api.ErrSyntax, 2)
	checkError(t, "# \"\n\"", api.ErrSyntax, 4)
}

// 2.1
func TestCommentsContainAnyByte(t *testing.T) {
	for b := range 256 {
		if b == '\n' {
			continue
		}
		text := string([]byte{'#', byte(b)})
		checkTokens(t, text)
		checkTokens(t, text+"07$\na", name("a", 6))
	}
}

// byteClass tells how a byte is described by the chapter: letters and `_` (a), digits (0), separators ( ), `#`,
// the single characters (+), or any other (0 byte).
func byteClass(b byte) byte {
	switch {
	case b >= 'a' && b <= 'z', b >= 'A' && b <= 'Z', b == '_':
		return 'a'
	case b >= '0' && b <= '9':
		return '0'
	case b == ' ', b == '\t', b == '\n', b == '\r':
		return ' '
	case b == '#':
		return '#'
	case slices.Contains(allSymbols(), string(rune(b))):
		return '+'
	}
	return 0
}

// 2.1
func TestEachByte(t *testing.T) {
	for b := range 256 {
		text := string([]byte{byte(b)})
		switch byteClass(byte(b)) {
		case 'a':
			checkTokens(t, text, name(text, 0))
			checkTokens(t, "x"+text, name("x"+text, 0))
			checkError(t, "1"+text, api.ErrSyntax, 0)
		case '0':
			checkTokens(t, text, number(text, 0))
			checkTokens(t, "x"+text, name("x"+text, 0))
			checkTokens(t, "1"+text, number("1"+text, 0))
		case ' ', '#':
			checkTokens(t, text)
			checkTokens(t, "x"+text, name("x", 0))
			checkTokens(t, "1"+text, number("1", 0))
		case '+':
			checkTokens(t, text, symbol(text, 0))
			checkTokens(t, "x"+text, name("x", 0), symbol(text, 1))
			checkTokens(t, "1"+text, number("1", 0), symbol(text, 1))
		default:
			checkError(t, text, api.ErrSyntax, 0)
			checkError(t, "x"+text, api.ErrSyntax, 1)
			checkError(t, "1"+text, api.ErrSyntax, 1)
			checkError(t, "=="+text+"=", api.ErrSyntax, 2)
		}
	}
}

// 2.1
func TestBytesThatStartNoToken(t *testing.T) {
	for _, s := range []string{
		"\"", "'", "$", "@", ".", "\\", "`", "\x00", "\v", "\f", "\x1f", "\x7f", "\x80", "\xa0", "\xff", "\x85",
		"\u00e4", "\u00aa", "\u0661", "\uff11", "\u2212", "\u00a0", "\u2028", "\ufeff", "\U0001f600", "\ufffd",
	} {
		checkError(t, s, api.ErrSyntax, 0)
		checkError(t, "a"+s, api.ErrSyntax, 1)
		checkError(t, "12 "+s+" 07", api.ErrSyntax, 3)
		checkError(t, "#"+s+"\n"+s, api.ErrSyntax, len(s)+2)
	}
}

// 2.1
func TestLeftmostOfSeveralErrors(t *testing.T) {
	long := strings.Repeat("n", api.MaxName+1)
	checkError(t, "07 "+long, api.ErrSyntax, 0)
	checkError(t, long+" 07", api.ErrLimit, 0)
	checkError(t, "\""+long, api.ErrSyntax, 0)
	checkError(t, long+"\"", api.ErrLimit, 0)
	checkError(t, "a + 1b * "+long+" $", api.ErrSyntax, 4)
	checkError(t, "a + "+long+" * 1b $", api.ErrLimit, 4)
	checkError(t, "a + $ "+long+" 1b", api.ErrSyntax, 4)
	checkError(t, "0"+long, api.ErrSyntax, 0)
	checkError(t, "a;"+long+"\n"+long, api.ErrLimit, 2)
	checkError(t, "a;$$", api.ErrSyntax, 2)
}

// 2.1
func TestTextsUpToMaxText(t *testing.T) {
	blanks := strings.Repeat(" ", api.MaxText)
	checkTokens(t, blanks)
	checkTokens(t, blanks[1:]+"a", name("a", api.MaxText-1))
	checkTokens(t, "a"+blanks[1:], name("a", 0))
	checkTokens(t, blanks[3:]+">>>", symbol(">>>", api.MaxText-3))
	checkTokens(t, "#"+blanks[1:])
	checkError(t, blanks[1:]+"$", api.ErrSyntax, api.MaxText-1)
	checkError(t, "07"+blanks[2:], api.ErrSyntax, 0)

	tokens, err := lexer.Scan(strings.Repeat(";", api.MaxText))
	if len(tokens) != api.MaxText || err != (api.Err{}) {
		t.Errorf("%d tokens and %v, want %d and no error", len(tokens), err, api.MaxText)
	}
	for at, token := range tokens {
		if token != symbol(";", at) {
			t.Fatalf("token %d is %v", at, token)
		}
	}
}

// 2.1
func TestLongerTextsAreRejected(t *testing.T) {
	blanks := strings.Repeat(" ", api.MaxText)
	for _, s := range []string{
		blanks + " ", blanks + "\n", blanks + "a", blanks + "$", blanks + "#", "#" + blanks, "a" + blanks,
		"07" + blanks, "$" + blanks, blanks[2:] + ">>>", blanks[1:] + "07",
		strings.Repeat("a", api.MaxText+1), strings.Repeat("1", api.MaxText+1), strings.Repeat(";", api.MaxText+1), strings.Repeat("a ", api.MaxText),
		strings.Repeat("\xff", api.MaxText+1), strings.Repeat(" ", 50*api.MaxText),
	} {
		checkError(t, s, api.ErrLimit, api.MaxText)
	}
}

// R2
func TestResultsAreNewlyAllocated(t *testing.T) {
	const s = "a = 1;"
	first, _ := lexer.Scan(s)
	for i := range first {
		first[i] = api.Token{}
	}
	checkTokens(t, s, name("a", 0), symbol("=", 2), number("1", 4), symbol(";", 5))
}

// reference scans texts with regular expressions.
type reference struct {
	separators, name, number, symbol, decimal *regexp.Regexp
}

func newReference() reference {
	var quoted []string
	for _, s := range allSymbols() {
		quoted = append(quoted, regexp.QuoteMeta(s))
	}
	return reference{
		separators: regexp.MustCompile(`^([ \t\n\r]|#[^\n]*)*`),
		name:       regexp.MustCompile(`^[A-Za-z_][A-Za-z0-9_]*`),
		number:     regexp.MustCompile(`^[0-9][A-Za-z0-9_]*`),
		symbol:     regexp.MustCompile(`^(` + strings.Join(quoted, "|") + `)`),
		decimal:    regexp.MustCompile(`^(0|[1-9][0-9]*)$`),
	}
}

func (r reference) scan(s string) ([]api.Token, api.Err) {
	var tokens []api.Token
	for at := len(r.separators.FindString(s)); at < len(s); {
		token, why := r.tokenAt(s, at)
		if why != api.OK {
			return nil, api.Err{Why: why, At: at}
		}
		tokens = append(tokens, token)
		at += len(token.Text)
		at += len(r.separators.FindString(s[at:]))
	}
	return tokens, api.Err{}
}

func (r reference) tokenAt(s string, at int) (api.Token, api.Errno) {
	if text := r.name.FindString(s[at:]); text != "" {
		if len(text) > api.MaxName {
			return api.Token{}, api.ErrLimit
		}
		return name(text, at), api.OK
	}
	if text := r.number.FindString(s[at:]); text != "" {
		largest := new(big.Int).Lsh(big.NewInt(1), 63)
		if n, ok := new(big.Int).SetString(text, 10); !ok || !r.decimal.MatchString(text) || n.Cmp(largest) > 0 {
			return api.Token{}, api.ErrSyntax
		}
		return number(text, at), api.OK
	}
	if text := r.symbol.FindString(s[at:]); text != "" {
		return symbol(text, at), api.OK
	}
	return api.Token{}, api.ErrSyntax
}

// 2.1
func TestScanAgreesWithRegularExpressionsOnAllShortTexts(t *testing.T) {
	parts := []string{"a", "_", "Z", "0", "1", " ", "\n", "\r", "#", "<", ">", "=", "!", "-", "$", "\xff", "abcdefghijklmnop", "9223372036854775808"}
	r := newReference()
	texts := []string{""}
	for start, length := 0, 0; length < 4; length++ {
		end := len(texts)
		for ; start < end; start++ {
			for _, part := range parts {
				texts = append(texts, texts[start]+part)
			}
		}
	}
	for _, s := range texts {
		got, err := lexer.Scan(s)
		want, wantErr := r.scan(s)
		if !slices.Equal(got, want) || err != wantErr {
			t.Fatalf("Scan(%q) = %v, %v, want %v, %v", s, got, err, want, wantErr)
		}
	}
}
