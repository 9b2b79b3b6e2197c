package lex_test

import (
	"strings"
	"testing"
)

func TestP5_1Places(t *testing.T) {
	taken(t, "a", 1, 2, name("a", 1, 1))
	taken(t, "\na", 2, 2, name("a", 2, 1))
	taken(t, "\n\n a\n", 4, 1, name("a", 3, 2))
	taken(t, "αβ γ", 1, 5, name("αβ", 1, 1), name("γ", 1, 4))
	taken(t, "ab ω1<<x\n\tsc", 2, 4, name("ab", 1, 1), name("ω1", 1, 4), sign("<<", 1, 6), name("x", 1, 8), word("sc", 2, 2))
}

// Byte 13 and byte 9 take one column each, whatever they do elsewhere.
func TestP5_1ReturnsAndTabs(t *testing.T) {
	taken(t, "\ta", 1, 3, name("a", 1, 2))
	taken(t, "\ra", 1, 3, name("a", 1, 2))
	taken(t, "a\r\nb", 2, 2, name("a", 1, 1), name("b", 2, 1))
	taken(t, "a\r\rb\t\tc", 1, 8, name("a", 1, 1), name("b", 1, 4), name("c", 1, 7))
	taken(t, "a\n\rb", 2, 3, name("a", 1, 1), name("b", 2, 2))
	taken(t, "a\r", 1, 3, name("a", 1, 1))
}

// A remark's runes of one to four bytes take a column each.
func TestP5_1RunesOfSeveralBytes(t *testing.T) {
	taken(t, "//aé€\U0001F600", 1, 7)
	taken(t, "//é€\U0001F600\na", 2, 2, name("a", 2, 1))
	taken(t, "//é\r\n\t α<=1", 2, 7, name("α", 2, 3), sign("<=", 2, 4), number("1", 1, 2, 6))
	refused(t, "ααα é", 1, 5)
	refused(t, "//\U0001F600\U0001F600\xff", 1, 5)
	refused(t, "//\U0001F600\uFFFD\uFFFD\xf0\x9f\x98", 1, 6)
	refused(t, "// ü\n// €\n α $", 3, 4)
	refused(t, "ω 12ω", 1, 5)
	refused(t, "ωωω 0x", 1, 7)
	refused(t, "ωωω 99999999999999999999", 1, 5)
	refused(t, "αβ\xb1", 1, 3)
}

func TestP5_1ManyLines(t *testing.T) {
	taken(t, strings.Repeat("\n", 65535)+"a", 65536, 2, name("a", 65536, 1))
	taken(t, strings.Repeat(" ", 65535)+"a", 1, 65537, name("a", 1, 65536))
	refused(t, strings.Repeat("\n", 65535)+"$", 65536, 1)
	refused(t, strings.Repeat(" ", 65535)+"$", 1, 65536)
}
