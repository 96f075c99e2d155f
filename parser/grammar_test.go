package parser_test

import (
	"slices"
	"strings"

	"fulling/api"
)

// grammarText has the syntax of the chapter, a rule on each line: a symbol and what it consists of.
// NAME is a name that is not reserved, NUM a number of at most 1,000,000, WORD one of at most 9223372036854775807, NUMBER any number.
const grammarText = `
Program
Program Program Declaration
Declaration array NAME NUM ;
Declaration func NAME ( Params ) Locals { Stmts return Expr ; }
Params
Params Names
Locals
Locals var Names
Names NAME
Names Names , NAME
Stmts
Stmts Stmts Stmt
Stmt NAME = Expr ;
Stmt NAME = NAME ( Args ) ;
Stmt NAME [ Expr ] = Expr ;
Stmt if ( Expr ) { Stmts }
Stmt if ( Expr ) { Stmts } else { Stmts }
Stmt while ( Expr ) { Stmts }
Stmt out Expr ;
Stmt trap NUM ;
Args
Args Exprs
Exprs Expr
Exprs Exprs , Expr
Expr Or
Expr Or ? Expr : Expr
Or Xor
Or Or | Xor
Xor And
Xor Xor ^ And
And Equal
And And & Equal
Equal Less
Equal Equal == Less
Equal Equal != Less
Less Shift
Less Less < Shift
Less Less <= Shift
Less Less > Shift
Less Less >= Shift
Shift Sum
Shift Shift << Sum
Shift Shift >> Sum
Shift Shift >>> Sum
Sum Product
Sum Sum + Product
Sum Sum - Product
Product Prefix
Product Product * Prefix
Product Product / Prefix
Product Product % Prefix
Prefix Operand
Prefix - Prefix
Prefix - NUMBER
Prefix ~ Prefix
Prefix ! Prefix
Operand WORD
Operand NAME
Operand NAME [ Expr ]
Operand ( Expr )
`

// grammar recognizes programs with the algorithm of Earley.
type grammar struct {
	rules [][]string
	// bySymbol has the indices of the rules of each symbol.
	bySymbol map[string][]int
	// sets has the items before each of the recognized tokens, and those behind the last one.
	// They are kept because many of the tokens that are examined one after the other start alike.
	tokens []string
	sets   []itemSet
}

// item is a rule of which the first dot symbols have been recognized, from token start on.
type item struct {
	rule, dot, start int
}

func newGrammar() *grammar {
	g := &grammar{bySymbol: map[string][]int{}, sets: make([]itemSet, 1)}
	for line := range strings.Lines(strings.TrimSpace(grammarText)) {
		rule := strings.Fields(line)
		g.bySymbol[rule[0]] = append(g.bySymbol[rule[0]], len(g.rules))
		g.rules = append(g.rules, rule)
	}
	for _, rule := range g.bySymbol["Program"] {
		g.sets[0].add(item{rule: rule})
	}
	g.completeLastSet()
	return g
}

// expected returns the symbol after the dot of an item, or the empty string if the item is complete.
func (g *grammar) expected(i item) string {
	if i.dot+1 == len(g.rules[i.rule]) {
		return ""
	}
	return g.rules[i.rule][i.dot+1]
}

// itemSet is a set of items in the order in which they were added.
type itemSet struct {
	items   []item
	members map[item]bool
}

func (s *itemSet) add(i item) {
	if s.members == nil {
		s.members = map[item]bool{}
	}
	if !s.members[i] {
		s.members[i] = true
		s.items = append(s.items, i)
	}
}

// completeLastSet adds what follows from the items of the last set.
func (g *grammar) completeLastSet() {
	last := len(g.sets) - 1
	set := &g.sets[last]
	for k := 0; k < len(set.items); k++ {
		i := set.items[k]
		symbol := g.expected(i)
		if symbol == "" {
			for _, parent := range g.sets[i.start].items {
				if g.expected(parent) == g.rules[i.rule][0] {
					set.add(item{parent.rule, parent.dot + 1, parent.start})
				}
			}
			continue
		}
		for _, rule := range g.bySymbol[symbol] {
			set.add(item{rule: rule, start: last})
		}
		// A symbol that may be empty may have been completed here before this item was added.
		if g.mayBeEmpty(symbol) {
			set.add(item{i.rule, i.dot + 1, i.start})
		}
	}
}

func (g *grammar) mayBeEmpty(symbol string) bool {
	return slices.ContainsFunc(g.bySymbol[symbol], func(rule int) bool { return len(g.rules[rule]) == 1 })
}

// terminals lists the terminal symbols that a token matches.
func terminals(token string) []string {
	switch {
	case token[0] >= '0' && token[0] <= '9':
		return numberTerminals(token)
	case (token[0] == '_' || token[0] >= 'a' && token[0] <= 'z') && !slices.Contains(reservedWords(), token):
		return []string{"NAME"}
	}
	return []string{token}
}

func numberTerminals(token string) []string {
	names := []string{"NUMBER"}
	if len(token) < 19 || token <= "9223372036854775807" {
		names = append(names, "WORD")
	}
	if len(token) < 7 || token == "1000000" {
		names = append(names, "NUM")
	}
	return names
}

// accept adds the set behind a further token, unless it cannot continue a program.
func (g *grammar) accept(token string) bool {
	names := terminals(token)
	var next itemSet
	for _, i := range g.sets[len(g.tokens)].items {
		if slices.Contains(names, g.expected(i)) {
			next.add(item{i.rule, i.dot + 1, i.start})
		}
	}
	if len(next.items) == 0 {
		return false
	}
	g.tokens = append(g.tokens, token)
	g.sets = append(g.sets, next)
	g.completeLastSet()
	return true
}

// keepCommonStart drops the sets behind tokens that differ from the given ones.
func (g *grammar) keepCommonStart(tokens []string) {
	n := 0
	for n < len(g.tokens) && n < len(tokens) && g.tokens[n] == tokens[n] {
		n++
	}
	g.tokens, g.sets = g.tokens[:n], g.sets[:n+1]
}

// firstError returns the index of the first token that cannot continue a program,
// len(tokens) if the tokens end too early, or -1 if they are a program.
func (g *grammar) firstError(tokens []string) int {
	g.keepCommonStart(tokens)
	for len(g.tokens) < len(tokens) {
		if !g.accept(tokens[len(g.tokens)]) {
			return len(g.tokens)
		}
	}
	for _, i := range g.sets[len(tokens)].items {
		if i.start == 0 && g.rules[i.rule][0] == "Program" && g.expected(i) == "" {
			return -1
		}
	}
	return len(tokens)
}

// joinTokens writes tokens with separators between them. It also returns the offset of each token, and the length of the text after them.
func joinTokens(tokens []string, separator func() string) (string, []int) {
	var text strings.Builder
	var offsets []int
	for _, token := range tokens {
		text.WriteString(separator())
		offsets = append(offsets, text.Len())
		text.WriteString(token)
	}
	text.WriteString(separator())
	return text.String(), append(offsets, text.Len())
}

func blank() string {
	return " "
}

// expectedError returns what Parse has to return for the tokens at these offsets.
func (g *grammar) expectedError(tokens []string, offsets []int) api.Err {
	first := g.firstError(tokens)
	if first < 0 {
		return api.Err{}
	}
	return api.Err{Why: api.ErrSyntax, At: offsets[first]}
}
