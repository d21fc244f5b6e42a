package impl

import (
	"strconv"
	"strings"
)

// MaxText is the largest length of a string element, a name attribute, a class or a level, in bytes.
const MaxText = 60

// MaxName is the largest length of a variable name in bytes.
const MaxName = 20

// maxParsed is the largest number of 9 digits.
const maxParsed = 999999999

const hexDigits = "0123456789abcdef"

func FormatInt(n int) string { return strconv.Itoa(n) }

func ParseInt(s string) (int, bool) {
	n, err := strconv.Atoi(s)
	if err != nil || n < -maxParsed || n > maxParsed {
		return 0, false
	}
	// Atoi also reads texts that FormatInt never writes, such as +1, 007 and -0.
	if FormatInt(n) != s {
		return 0, false
	}
	return n, true
}

func QuoteString(s string) string {
	var b strings.Builder
	b.WriteByte('"')
	// Bytes, not runes: a string need not be UTF-8, and each byte above 126 has an escape of its own.
	for i := 0; i < len(s); i++ {
		writeQuotedByte(&b, s[i])
	}
	b.WriteByte('"')
	return b.String()
}

func writeQuotedByte(b *strings.Builder, c byte) {
	switch {
	case c == '"' || c == '\\':
		b.WriteByte('\\')
		b.WriteByte(c)
	case c == '\n':
		b.WriteString("\\n")
	case c < 32 || c > 126:
		b.WriteString("\\x")
		b.WriteByte(hexDigits[c>>4])
		b.WriteByte(hexDigits[c&15])
	default:
		b.WriteByte(c)
	}
}

func UnquoteString(s string) (string, bool) {
	if len(s) < 2 {
		return "", false
	}
	t := resolveEscapes(s[1 : len(s)-1])
	// A string has one text only: this refuses missing quotes, faulty escapes and escapes where none is due.
	if QuoteString(t) != s {
		return "", false
	}
	return t, true
}

func resolveEscapes(s string) string {
	var b strings.Builder
	for len(s) > 0 {
		c, width := firstQuotedByte(s)
		b.WriteByte(c)
		s = s[width:]
	}
	return b.String()
}

// firstQuotedByte takes faulty escapes for some byte too: UnquoteString refuses them, since no byte is written in that way.
func firstQuotedByte(s string) (byte, int) {
	switch {
	case s[0] != '\\' || len(s) == 1:
		return s[0], 1
	case s[1] == 'n':
		return '\n', 2
	case s[1] == 'x' && len(s) >= 4:
		return hexValue(s[2])<<4 | hexValue(s[3]), 4
	}
	return s[1], 2
}

func hexValue(c byte) byte {
	return byte(strings.IndexByte(hexDigits, c) & 15)
}

func IsName(s string) bool {
	if len(s) < 1 || len(s) > MaxName {
		return false
	}
	// Runes will do: a byte above 126 is part of a rune above 126, also where it is not UTF-8.
	for _, r := range s {
		if r < 33 || r > 126 || r == '`' {
			return false
		}
	}
	return true
}

func IsSyntacticName(s string) bool {
	if !IsName(s) || isReservedWord(s) {
		return false
	}
	for _, r := range s {
		if !isLetter(r) && !isDigit(r) && r != '.' && r != '_' {
			return false
		}
	}
	if s[0] == '.' {
		return len(s) == 1 || !isDigit(rune(s[1]))
	}
	return isLetter(rune(s[0]))
}

func isLetter(r rune) bool {
	return r >= 'a' && r <= 'z' || r >= 'A' && r <= 'Z'
}

func isDigit(r rune) bool {
	return r >= '0' && r <= '9'
}

func isReservedWord(s string) bool {
	switch s {
	case "if", "else", "for", "in", "while", "break", "next", "function", "return",
		"TRUE", "FALSE", "NULL", "NA", "NA_number_", "NA_character_",
		"tryCatch", "withCallingHandlers", "withRestart", "invokeRestart",
		"missing", "on.exit", "UseMethod", "NextMethod":
		return true
	}
	return false
}

func FormatName(s string) string {
	if !IsName(s) {
		return ""
	}
	if IsSyntacticName(s) {
		return s
	}
	return "`" + s + "`"
}

func JoinFields(list []string) string {
	var b strings.Builder
	for _, field := range list {
		b.WriteString(FormatInt(len(field)))
		b.WriteByte(':')
		b.WriteString(field)
	}
	return b.String()
}

func SplitFields(s string) ([]string, bool) {
	var list []string
	for len(s) > 0 {
		field, rest, ok := cutField(s)
		if !ok {
			return nil, false
		}
		list = append(list, field)
		s = rest
	}
	return list, true
}

func cutField(s string) (field string, rest string, ok bool) {
	length, rest, found := strings.Cut(s, ":")
	n, ok := ParseInt(length)
	if !found || !ok || n < 0 || n > len(rest) {
		return "", "", false
	}
	return rest[:n], rest[n:], true
}
