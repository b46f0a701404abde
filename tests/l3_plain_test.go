package tests

import (
	"fmt"
	"math/big"
	"reflect"
	"regexp"
	"slices"
	"strings"

	"loop.example/s0011/impl"
)

// The tests of chapter 3 hold the program against the document's own words, written out here in another way:
// tokens by patterns, expressions by cutting at the sign that binds least, statements by patterns over their words.

var plainSpace = regexp.MustCompile(`^[ \n]+`)
var plainToken = regexp.MustCompile(`^([a-z][a-z0-9_]*|[0-9]+|"[ !#-~]*"|<>|<=|[-(),;+*/%&=<])`)
var plainNamePattern = regexp.MustCompile(`^[a-z][a-z0-9_]{0,15}$`)

var plainReserved = strings.Fields("label below role field int bool text at auto by is when valid says must and or not true false blank")

func plainGoodName(s string) bool {
	return plainNamePattern.MatchString(s) && !slices.Contains(plainReserved, s)
}

// plainTokens gives the place of the first bad token, or -1.
func plainTokens(text string) ([]string, int) {
	tokens := []string{}
	for at := 0; at < len(text); {
		if space := plainSpace.FindString(text[at:]); space != "" {
			at += len(space)
			continue
		}
		token := plainToken.FindString(text[at:])
		if token == "" || !plainTokenFits(token) {
			return nil, at
		}
		tokens = append(tokens, token)
		at += len(token)
	}
	return tokens, -1
}

func plainTokenFits(token string) bool {
	switch {
	case token[0] == '"':
		return len(token) <= impl.MaxText+2
	case token[0] >= 'a' && token[0] <= 'z':
		return len(token) <= impl.MaxName
	case token[0] >= '0' && token[0] <= '9':
		n, _ := new(big.Int).SetString(token, 10)
		return n.IsInt64() && (token == "0" || token[0] != '0')
	}
	return true
}

// tree is an expression with its arguments below it.
type tree struct {
	node impl.Node
	args []*tree
}

func constant(v impl.Value) impl.Node { return impl.Node{Op: impl.OpConst, Val: v} }
func field(name string) impl.Node     { return impl.Node{Op: impl.OpField, Name: name} }
func operator(op int) impl.Node       { return impl.Node{Op: op} }

func leaf(n impl.Node) *tree { return &tree{node: n} }

func branch(op int, args ...*tree) *tree {
	return &tree{node: operator(op), args: args}
}

func (e *tree) postfix() []impl.Node {
	nodes := []impl.Node{}
	for _, a := range e.args {
		nodes = append(nodes, a.postfix()...)
	}
	return append(nodes, e.node)
}

func (e *tree) depth() int {
	deepest := 0
	for _, a := range e.args {
		deepest = max(deepest, a.depth())
	}
	return deepest + 1
}

// plainSigns has the binary signs by level, the operators beside them.
var plainSigns = []map[string]int{
	1: {"or": impl.OpOr},
	2: {"and": impl.OpAnd},
	3: {"=": impl.OpEq, "<>": impl.OpNe, "<": impl.OpLt, "<=": impl.OpLe},
	4: {"+": impl.OpAdd, "-": impl.OpSub, "&": impl.OpCat},
	5: {"*": impl.OpMul, "/": impl.OpDiv, "%": impl.OpMod},
}

var plainFunctions = map[string]int{"if": impl.OpIf, "min": impl.OpMin, "max": impl.OpMax, "orelse": impl.OpElse, "has": impl.OpHas,
	"len": impl.OpLen, "num": impl.OpNum, "str": impl.OpStr, "isblank": impl.OpIsBlank, "iserr": impl.OpIsErr}

// plainNests gives for each token how many brackets are open ahead of it; ok is false if they nest too deep or don't pair up.
func plainNests(tokens []string) ([]int, bool) {
	nests := []int{}
	open := 0
	for _, token := range tokens {
		nests = append(nests, open)
		switch token {
		case "(":
			open++
		case ")":
			open--
		}
		if open < 0 || open > impl.MaxNest {
			return nil, false
		}
	}
	return nests, open == 0
}

// plainExpr gives nil for tokens that are not an expression.
func plainExpr(tokens []string) *tree {
	if _, ok := plainNests(tokens); !ok {
		return nil
	}
	return plainAtLevel(tokens, 1)
}

func endsOperand(token string) bool {
	_, isConstant := plainRead(token)
	return isConstant || plainGoodName(token) || token == ")"
}

// plainCuts gives the places of the signs of a level that stand between two operands and outside of all brackets.
func plainCuts(tokens []string, level int) []int {
	nests, ok := plainNests(tokens)
	if !ok {
		return nil
	}
	cuts := []int{}
	for i := 1; i < len(tokens); i++ {
		if _, is := plainSigns[level][tokens[i]]; is && nests[i] == 0 && endsOperand(tokens[i-1]) {
			cuts = append(cuts, i)
		}
	}
	return cuts
}

func plainAtLevel(tokens []string, level int) *tree {
	if level == 6 {
		return plainSigned(tokens)
	}
	cuts := plainCuts(tokens, level)
	if len(cuts) == 0 {
		return plainAtLevel(tokens, level+1)
	}
	if level == 3 && len(cuts) > 1 {
		return nil
	}
	cut := cuts[len(cuts)-1]
	left, right := plainAtLevel(tokens[:cut], level), plainAtLevel(tokens[cut+1:], level+1)
	if left == nil || right == nil {
		return nil
	}
	return branch(plainSigns[level][tokens[cut]], left, right)
}

func plainSigned(tokens []string) *tree {
	if len(tokens) == 0 {
		return nil
	}
	op, ok := map[string]int{"-": impl.OpNeg, "not": impl.OpNot}[tokens[0]]
	if !ok {
		return plainAtom(tokens)
	}
	under := plainSigned(tokens[1:])
	if under == nil {
		return nil
	}
	return branch(op, under)
}

func plainAtom(tokens []string) *tree {
	last := len(tokens) - 1
	switch {
	case last == 0:
		return plainLeaf(tokens[0])
	case tokens[0] == "(" && tokens[last] == ")":
		return plainInside(tokens[1:last])
	case plainGoodName(tokens[0]) && tokens[1] == "(" && tokens[last] == ")":
		return plainCall(tokens[0], tokens[2:last])
	}
	return nil
}

func plainInside(tokens []string) *tree {
	if _, ok := plainNests(tokens); !ok {
		return nil
	}
	return plainAtLevel(tokens, 1)
}

func plainLeaf(token string) *tree {
	if v, ok := plainRead(token); ok {
		return leaf(constant(v))
	}
	if plainGoodName(token) {
		return leaf(field(token))
	}
	return nil
}

func plainCall(name string, tokens []string) *tree {
	op, ok := plainFunctions[name]
	nests, pairs := plainNests(tokens)
	if !ok || !pairs {
		return nil
	}
	args := []*tree{}
	start := 0
	for i := 0; i <= len(tokens); i++ {
		if i < len(tokens) && (tokens[i] != "," || nests[i] > 0) {
			continue
		}
		arg := plainAtLevel(tokens[start:i], 1)
		if arg == nil {
			return nil
		}
		args = append(args, arg)
		start = i + 1
	}
	if len(args) != operandCounts[op] {
		return nil
	}
	return branch(op, args...)
}

// plainTree gives nil where a node is wrong or the nodes leave another number of operands than one.
func plainTree(nodes []impl.Node) *tree {
	stack := []*tree{}
	for _, n := range nodes {
		if !plainNode(n) {
			return nil
		}
		count := 0
		if isOp(n.Op) {
			count = operandCounts[n.Op]
		}
		if count > len(stack) {
			return nil
		}
		rest := len(stack) - count
		stack = append(stack[:rest], &tree{node: n, args: slices.Clone(stack[rest:])})
	}
	if len(stack) != 1 {
		return nil
	}
	return stack[0]
}

func plainNode(n impl.Node) bool {
	switch {
	case n.Op == impl.OpConst:
		kinds := []int{impl.KBlank, impl.KBool, impl.KText, impl.KInt}
		return n.Name == "" && plainValid(n.Val) && slices.Contains(kinds, n.Val.Kind) && (n.Val.Kind != impl.KInt || n.Val.Num >= 0)
	case n.Op == impl.OpField:
		return plainGoodName(n.Name) && n.Val == impl.Value{}
	}
	return isOp(n.Op) && n.Name == "" && n.Val == impl.Value{}
}

func plainWord(op int) (string, int) {
	for level, signs := range plainSigns {
		for sign, it := range signs {
			if it == op {
				return sign, level
			}
		}
	}
	for name, it := range plainFunctions {
		if it == op {
			return name, 7
		}
	}
	return map[int]string{impl.OpNeg: "-", impl.OpNot: "not "}[op], 6
}

func (e *tree) level() int {
	if len(e.args) == 0 {
		return 7
	}
	_, level := plainWord(e.node.Op)
	return level
}

func inBrackets(text string, asked bool) string {
	if asked {
		return "(" + text + ")"
	}
	return text
}

func (e *tree) text() string {
	switch {
	case e.node.Op == impl.OpConst:
		return plainShow(e.node.Val)
	case e.node.Op == impl.OpField:
		return e.node.Name
	}
	word, level := plainWord(e.node.Op)
	texts := []string{}
	for _, a := range e.args {
		texts = append(texts, a.text())
	}
	switch level {
	case 7:
		return word + "(" + strings.Join(texts, ", ") + ")"
	case 6:
		return word + inBrackets(texts[0], e.args[0].level() < 6)
	}
	left, right := e.args[0].level(), e.args[1].level()
	return inBrackets(texts[0], left < level || level == 3 && left == 3) + " " + word + " " + inBrackets(texts[1], right <= level)
}

func plainValidExpr(nodes []impl.Node) bool {
	if len(nodes) < 1 || len(nodes) > impl.MaxNodes {
		return false
	}
	e := plainTree(nodes)
	return e != nil && e.depth() <= impl.MaxDepth && len(e.text()) <= impl.MaxExprText
}

func plainPrintExpr(nodes []impl.Node) string {
	if !plainValidExpr(nodes) {
		return ""
	}
	return plainTree(nodes).text()
}

func plainParseExpr(text string) ([]impl.Node, int) {
	if len(text) > impl.MaxExprText {
		return nil, 1
	}
	tokens, bad := plainTokens(text)
	if bad >= 0 {
		return nil, 2
	}
	e := plainExpr(tokens)
	if e == nil {
		return nil, 3
	}
	if !plainValidExpr(e.postfix()) {
		return nil, 4
	}
	return e.postfix(), 0
}

var plainKinds = []string{"label", "below", "role", "field"}
var plainLimits = []int{impl.MaxLabels, impl.MaxPairs, impl.MaxRoles, impl.MaxFields}
var plainTypes = []string{1: "int", 2: "bool", 3: "text"}
var plainStops = []string{"is", "when", "valid", "says", "must"}

var plainShapes = []*regexp.Regexp{
	regexp.MustCompile(`^label NAME$`),
	regexp.MustCompile(`^below NAME NAME$`),
	regexp.MustCompile(`^role NAME at NAME$`),
	regexp.MustCompile(`^field NAME (int|bool|text) at (NAME|auto)( by NAME)*( is EXPR)?( when EXPR)?( valid EXPR says TEXT)?( must EXPR)?$`),
}

// plainStatement is a statement by its parts: what stands after a word.
type plainStatement struct {
	kind  int
	names []string
	rules map[string]*tree
	says  string
	words []string
}

// plainReadStatement turns the tokens into the words of the patterns and then asks for the pattern.
func plainReadStatement(tokens []string) (plainStatement, bool) {
	s := plainStatement{rules: map[string]*tree{}, words: tokens}
	if len(tokens) == 0 || !slices.Contains(plainKinds, tokens[0]) {
		return s, false
	}
	s.kind = slices.Index(plainKinds, tokens[0])
	stop := slices.IndexFunc(tokens, func(word string) bool { return slices.Contains(plainStops, word) })
	if stop < 0 {
		stop = len(tokens)
	}
	shape := []string{}
	for _, token := range tokens[:stop] {
		if plainGoodName(token) {
			s.names = append(s.names, token)
			token = "NAME"
		}
		shape = append(shape, token)
	}
	for stop < len(tokens) {
		end := stop + 1
		for end < len(tokens) && !slices.Contains(plainStops, tokens[end]) {
			end++
		}
		shape = append(shape, tokens[stop], s.section(tokens[stop], tokens[stop+1:end]))
		stop = end
	}
	both := slices.Contains(tokens, "by") && slices.Contains(tokens, "is")
	return s, !both && plainShapes[s.kind].MatchString(strings.Join(shape, " "))
}

func (s *plainStatement) section(word string, tokens []string) string {
	if word == "says" {
		if len(tokens) != 1 || tokens[0][0] != '"' {
			return "WRONG"
		}
		s.says = tokens[0][1 : len(tokens[0])-1]
		return "TEXT"
	}
	e := plainExpr(tokens)
	if e == nil {
		return "WRONG"
	}
	s.rules[word] = e
	return "EXPR"
}

func (s *plainStatement) rule(word string) []impl.Node {
	if s.rules[word] == nil {
		return nil
	}
	return s.rules[word].postfix()
}

// used gives the labels and the roles that a statement names.
func (s *plainStatement) used() ([]string, []string) {
	switch s.kind {
	case 0:
		return nil, nil
	case 1:
		return s.names, nil
	case 2:
		return s.names[1:], nil
	}
	if s.words[4] == "auto" {
		return nil, s.names[1:]
	}
	return s.names[1:2], s.names[2:]
}

// plainNames has the names of labels, roles and fields by their kind of statement.
func plainNames(f impl.Form) [4][]string {
	names := [4][]string{0: f.Labels}
	for _, r := range f.Roles {
		names[2] = append(names[2], r.Name)
	}
	for _, x := range f.Fields {
		names[3] = append(names[3], x.Name)
	}
	return names
}

// plainCodes gives every code that applies to a statement of the right shape, after the form so far.
func plainCodes(f impl.Form, s plainStatement) []int {
	codes := []int{}
	counts := []int{len(f.Labels), len(f.Below), len(f.Roles), len(f.Fields)}
	for later := s.kind + 1; later < 4; later++ {
		if counts[later] > 0 {
			codes = append(codes, 4)
		}
	}
	if counts[s.kind] == plainLimits[s.kind] {
		codes = append(codes, 5)
	}
	names := plainNames(f)
	labels, roles := s.used()
	if s.kind != 1 && slices.Contains(names[s.kind], s.names[0]) {
		codes = append(codes, 6)
	}
	for i, role := range roles {
		if slices.Contains(roles[:i], role) {
			codes = append(codes, 6)
		}
		if !slices.Contains(names[2], role) {
			codes = append(codes, 7)
		}
	}
	for _, label := range labels {
		if !slices.Contains(f.Labels, label) {
			codes = append(codes, 7)
		}
	}
	for _, e := range s.rules {
		if !plainValidExpr(e.postfix()) {
			codes = append(codes, 8)
		}
	}
	return codes
}

func plainAdd(f *impl.Form, s plainStatement) {
	names := plainNames(*f)
	labels, roles := s.used()
	label := -1
	if len(labels) > 0 {
		label = slices.Index(f.Labels, labels[0])
	}
	switch s.kind {
	case 0:
		f.Labels = append(f.Labels, s.names[0])
	case 1:
		f.Below = append(f.Below, impl.Pair{Lo: label, Hi: slices.Index(f.Labels, labels[1])})
	case 2:
		f.Roles = append(f.Roles, impl.Role{Name: s.names[0], Label: label})
	case 3:
		x := impl.Field{Name: s.names[0], Type: slices.Index(plainTypes, s.words[2]), Label: label, Says: s.says}
		for _, role := range roles {
			x.By = append(x.By, slices.Index(names[2], role))
		}
		x.Is, x.When, x.Valid, x.Must = s.rule("is"), s.rule("when"), s.rule("valid"), s.rule("must")
		f.Fields = append(f.Fields, x)
	}
}

// plainParseForm is the list of codes, one after the other.
func plainParseForm(text string) (impl.Form, impl.Diag) {
	if len(text) > impl.MaxFormText {
		return impl.Form{}, impl.Diag{Code: 1}
	}
	tokens, bad := plainTokens(text)
	if bad >= 0 {
		return impl.Form{}, impl.Diag{Code: 2, At: bad}
	}
	f := impl.Form{}
	at := 0
	for ; len(tokens) > 0; at++ {
		end := slices.Index(tokens, ";")
		if end < 0 {
			return impl.Form{}, impl.Diag{Code: 3, At: at}
		}
		s, ok := plainReadStatement(tokens[:end])
		if !ok {
			return impl.Form{}, impl.Diag{Code: 3, At: at}
		}
		if codes := plainCodes(f, s); len(codes) > 0 {
			return impl.Form{}, impl.Diag{Code: slices.Min(codes), At: at}
		}
		plainAdd(&f, s)
		tokens = tokens[end+1:]
	}
	for k, x := range f.Fields {
		if len(plainUnknown(f, x)) > 0 {
			return impl.Form{}, impl.Diag{Code: 9, At: at - len(f.Fields) + k}
		}
	}
	if len(plainCanonical(f)) > impl.MaxFormText {
		return impl.Form{}, impl.Diag{Code: 10}
	}
	return f, impl.Diag{}
}

func plainUnknown(f impl.Form, x impl.Field) []string {
	unknown := []string{}
	for _, n := range slices.Concat(x.Is, x.When, x.Valid, x.Must) {
		if n.Op == impl.OpField && !slices.Contains(plainNames(f)[3], n.Name) {
			unknown = append(unknown, n.Name)
		}
	}
	return unknown
}

// plainCanonical is asked only of a form whose numbers are those of its labels and roles.
func plainCanonical(f impl.Form) string {
	out := ""
	for _, name := range f.Labels {
		out += fmt.Sprintf("label %s;\n", name)
	}
	for _, p := range f.Below {
		out += fmt.Sprintf("below %s %s;\n", f.Labels[p.Lo], f.Labels[p.Hi])
	}
	for _, r := range f.Roles {
		out += fmt.Sprintf("role %s at %s;\n", r.Name, f.Labels[r.Label])
	}
	for _, x := range f.Fields {
		label := "auto"
		if x.Label != -1 {
			label = f.Labels[x.Label]
		}
		out += fmt.Sprintf("field %s %s at %s", x.Name, plainTypes[x.Type], label)
		for _, r := range x.By {
			out += " by " + f.Roles[r].Name
		}
		out += plainRule(" is ", x.Is) + plainRule(" when ", x.When) + plainRule(" valid ", x.Valid)
		if len(x.Valid) > 0 {
			out += fmt.Sprintf(" says \"%s\"", x.Says)
		}
		out += plainRule(" must ", x.Must) + ";\n"
	}
	return out
}

func plainRule(word string, rule []impl.Node) string {
	if len(rule) == 0 {
		return ""
	}
	return word + plainTree(rule).text()
}

func plainGoodNames(names []string) bool {
	for i, name := range names {
		if !plainGoodName(name) || slices.Contains(names[:i], name) {
			return false
		}
	}
	return true
}

func plainValidForm(f impl.Form) bool {
	if len(f.Labels) > impl.MaxLabels || len(f.Below) > impl.MaxPairs || len(f.Roles) > impl.MaxRoles || len(f.Fields) > impl.MaxFields {
		return false
	}
	for _, names := range plainNames(f) {
		if !plainGoodNames(names) {
			return false
		}
	}
	used := []int{}
	for _, p := range f.Below {
		used = append(used, p.Lo, p.Hi)
	}
	for _, r := range f.Roles {
		used = append(used, r.Label)
	}
	for _, label := range used {
		if label < 0 || label >= len(f.Labels) {
			return false
		}
	}
	for _, x := range f.Fields {
		if !plainValidField(f, x) || len(plainUnknown(f, x)) > 0 {
			return false
		}
	}
	return len(plainCanonical(f)) <= impl.MaxFormText
}

func plainValidField(f impl.Form, x impl.Field) bool {
	for i, r := range x.By {
		if r < 0 || r >= len(f.Roles) || slices.Contains(x.By[:i], r) || len(x.Is) > 0 {
			return false
		}
	}
	for _, rule := range [][]impl.Node{x.Is, x.When, x.Valid, x.Must} {
		if len(rule) > 0 && !plainValidExpr(rule) {
			return false
		}
	}
	if x.Says != "" && len(x.Valid) == 0 {
		return false
	}
	return x.Type >= 1 && x.Type <= 3 && x.Label >= -1 && x.Label < len(f.Labels) && textPattern.MatchString(x.Says)
}

func sameNodes(a []impl.Node, b []impl.Node) bool {
	return slices.Equal(a, b)
}

// tidy leaves no empty list but nil, so that forms can be compared part by part.
func tidy(f impl.Form) impl.Form {
	out := impl.Form{Labels: append([]string(nil), f.Labels...), Below: append([]impl.Pair(nil), f.Below...), Roles: append([]impl.Role(nil), f.Roles...)}
	for _, x := range f.Fields {
		x.By = append([]int(nil), x.By...)
		x.Is = append([]impl.Node(nil), x.Is...)
		x.When = append([]impl.Node(nil), x.When...)
		x.Valid = append([]impl.Node(nil), x.Valid...)
		x.Must = append([]impl.Node(nil), x.Must...)
		out.Fields = append(out.Fields, x)
	}
	return out
}

func sameForm(a impl.Form, b impl.Form) bool {
	return reflect.DeepEqual(tidy(a), tidy(b))
}
