package lex

// letter: may a word begin with a byte?
func letter(c byte) bool {
	return 'a' <= c && c <= 'z' || 'A' <= c && c <= 'Z' || c == '_'
}

// digit: is a byte one of 0 to 9?
func digit(c byte) bool { return '0' <= c && c <= '9' }

// inWord: may a word go on with a byte?
func inWord(c byte) bool { return letter(c) || digit(c) }

// blank: may a byte stand between tokens, whatever is beside it?
func blank(c byte) bool { return c == ' ' || c == '\t' || c == '\n' || c == '\r' }

// Kept: is a word one that the language keeps for itself?
func Kept(s string) bool {
	switch s {
	case "class", "extends", "init", "int", "bool", "double", "str", "void", "Option":
		return true
	case "if", "else", "while", "break", "continue", "return", "print":
		return true
	case "super", "this", "null", "none", "some", "is", "true", "false", "new", "cast":
		return true
	case "toint", "todouble", "input", "ask", "length", "val":
		return true
	}
	return false
}

// Name: may a text be a name?
func Name(s string) bool {
	if s == "" || len(s) > MaxWord || !letter(s[0]) {
		return false
	}
	return skip(s, 0, inWord) == len(s) && !Kept(s)
}
