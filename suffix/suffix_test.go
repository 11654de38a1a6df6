package suffix

import (
	"math"
	"math/big"
	"math/rand"
	"regexp"
	"strconv"
	"strings"
	"testing"

	"sutler/api"
)

const most = 1 << 50

// kind is one of the three kinds of texts: how it is read and written, and, said anew, which texts are some (the whole number, what is behind the point, the suffix) and how much each suffix is.
type kind struct {
	name  string
	parse func(string) (int64, api.Errno)
	print func(int64) (string, api.Errno)
	form  *regexp.Regexp
	each  map[string]int64
}

func kinds() []kind {
	const digits = `(0|[1-9][0-9]{0,17})`
	return []kind{
		{"CPU", ParseCPU, PrintCPU, regexp.MustCompile(`\A` + digits + `()(m?)\z`), map[string]int64{"": 1000, "m": 1}},
		{"bytes", ParseBytes, PrintBytes, regexp.MustCompile(`\A` + digits + `()(|Ki|Mi|Gi|Ti)\z`), map[string]int64{"": 1, "Ki": 1 << 10, "Mi": 1 << 20, "Gi": 1 << 30, "Ti": 1 << 40}},
		{"money", ParseMoney, PrintMoney, regexp.MustCompile(`\A` + digits + `(?:\.([0-9]{1,6}))?()\z`), map[string]int64{"": 1000000}},
	}
}

// means says anew, by big numbers, what a text is.
func (k kind) means(s string) (int64, api.Errno) {
	m := k.form.FindStringSubmatch(s)
	if m == nil {
		return 0, api.ErrForm
	}
	n, _ := new(big.Int).SetString(m[1], 10)
	n.Mul(n, big.NewInt(k.each[m[3]]))
	if m[2] != "" {
		parts, _ := new(big.Int).SetString((m[2] + "00000")[:6], 10)
		n.Add(n, parts)
	}
	if n.Cmp(big.NewInt(most)) > 0 {
		return 0, api.ErrOver
	}
	return n.Int64(), api.OK
}

// agrees holds a reading against means.
func (k kind) agrees(t *testing.T, s string) {
	t.Helper()
	want, wrong := k.means(s)
	if n, e := k.parse(s); n != want || e != wrong {
		t.Errorf("%s %q: %d, %d, not %d, %d", k.name, s, n, e, want, wrong)
	}
}

type reading struct {
	text string
	n    int64
	e    api.Errno
}

func reads(t *testing.T, parse func(string) (int64, api.Errno), all []reading) {
	t.Helper()
	for _, r := range all {
		if n, e := parse(r.text); n != r.n || e != r.e {
			t.Errorf("%q: %d, %d, not %d, %d", r.text, n, e, r.n, r.e)
		}
	}
}

func refuses(t *testing.T, parse func(string) (int64, api.Errno), texts ...string) {
	t.Helper()
	for _, s := range texts {
		reads(t, parse, []reading{{s, 0, api.ErrForm}})
	}
}

// wrong are texts that are of no kind.
func wrong() []string {
	return []string{
		"", " ", "\x00", "m", "Ki", "Mi", "Gi", "Ti", ".", ".5", "1.", "-", "+", "-0", "-1", "+1", "+0", "-1m", "-1Ki", "-0.5",
		"1 ", " 1", "1 m", "1 Ki", "\t1", "1\n", "1\r\n", "1\x00", "00", "01", "02", "007", "00m", "01m", "00Ki", "01Ti", "00.5", "01.5",
		"1234567890123456789", "1234567890123456789m", "1000000000000000000Ki", "1000000000000000000.5", "0000000000000000000",
		"99999999999999999999999999", "18446744073709551616", "18446744073709551617m",
		"1mm", "1KiKi", "1KiMi", "1mKi", "1Kim", "1M", "1k", "1K", "1ki", "1KI", "1kI", "1Kib", "1KiB", "1i", "1Pi", "1Ei", "1u", "1n",
		"m1", "Ki1", "1m1", "1Ki1", "1.5m", "1.5Ki", "1.5Gi", "1m.5", "1.0000000", "0.0000000", "1.1234567", "1.5.5", "1..5", "1.+5", "1.-5", "1. 5", "1._5", "1.5 ",
		"1_000", "1,000", "1e3", "0x1", "0b1", "0o7", "1'000", "$1", "1$", "½", "٣", "３", "1٣", "1.٣", "1µ", "é", "1é", "\xff", "1\xff", "\xb2", "1\x80m", "1m\x80", "1Kí", "inf", "NaN",
	}
}

// TestParseCPU: P2.1.
func TestParseCPU(t *testing.T) {
	reads(t, ParseCPU, []reading{
		{"2", 2000, 0}, {"1500m", 1500, 0}, {"2000m", 2000, 0}, {"0", 0, 0}, {"0m", 0, 0}, {"1", 1000, 0}, {"1m", 1, 0}, {"10", 10000, 0},
		{"1125899906842", 1125899906842000, 0}, {"1125899906843", 0, api.ErrOver},
		{"1125899906842624m", most, 0}, {"1125899906842625m", 0, api.ErrOver}, {"1125899906842624", 0, api.ErrOver},
		{"100000000000000000m", 0, api.ErrOver}, {"999999999999999999m", 0, api.ErrOver}, {"999999999999999999", 0, api.ErrOver},
		// Their products would wrap round: to 384, to 768, below 0.
		{"18446744073709552", 0, api.ErrOver}, {"36893488147419104", 0, api.ErrOver}, {"9223372036854776", 0, api.ErrOver},
	})
	refuses(t, ParseCPU, wrong()...)
	refuses(t, ParseCPU, "1.5", "0.5", "1Ki", "1Mi", "1Gi", "1Ti")
}

// TestParseBytes: P2.2.
func TestParseBytes(t *testing.T) {
	reads(t, ParseBytes, []reading{
		{"4Gi", 1 << 32, 0}, {"100", 100, 0}, {"1024Ki", 1 << 20, 0}, {"1024Ti", most, 0}, {"1025Ti", 0, api.ErrOver},
		{"0", 0, 0}, {"0Ki", 0, 0}, {"0Mi", 0, 0}, {"0Gi", 0, 0}, {"0Ti", 0, 0},
		{"1", 1, 0}, {"1Ki", 1 << 10, 0}, {"1Mi", 1 << 20, 0}, {"1Gi", 1 << 30, 0}, {"1Ti", 1 << 40, 0},
		{"1125899906842624", most, 0}, {"1125899906842625", 0, api.ErrOver},
		{"1099511627776Ki", most, 0}, {"1099511627777Ki", 0, api.ErrOver},
		{"1073741824Mi", most, 0}, {"1073741825Mi", 0, api.ErrOver},
		{"1048576Gi", most, 0}, {"1048577Gi", 0, api.ErrOver},
		{"999999999999999999", 0, api.ErrOver}, {"999999999999999999Ki", 0, api.ErrOver}, {"999999999999999999Ti", 0, api.ErrOver},
		// All their bits would be shifted out, to 0.
		{"18014398509481984Ki", 0, api.ErrOver}, {"17592186044416Mi", 0, api.ErrOver}, {"17179869184Gi", 0, api.ErrOver}, {"16777216Ti", 0, api.ErrOver},
	})
	refuses(t, ParseBytes, wrong()...)
	refuses(t, ParseBytes, "1.5", "0.5", "1m", "0m")
}

// TestParseMoney: P2.3.
func TestParseMoney(t *testing.T) {
	reads(t, ParseMoney, []reading{
		{"3", 3000000, 0}, {"0.35", 350000, 0}, {"0.000040", 40, 0}, {"1.500000", 1500000, 0}, {"0", 0, 0}, {"0.0", 0, 0}, {"0.000000", 0, 0},
		{"1.1", 1100000, 0}, {"1.12", 1120000, 0}, {"1.123", 1123000, 0}, {"1.1234", 1123400, 0}, {"1.12345", 1123450, 0}, {"1.123456", 1123456, 0},
		{"0.1", 100000, 0}, {"0.01", 10000, 0}, {"0.001", 1000, 0}, {"0.0001", 100, 0}, {"0.00001", 10, 0}, {"0.000001", 1, 0}, {"0.999999", 999999, 0}, {"12.05", 12050000, 0},
		{"1125899906", 1125899906000000, 0}, {"1125899907", 0, api.ErrOver},
		{"1125899906.842624", most, 0}, {"1125899906.842625", 0, api.ErrOver}, {"1125899906.9", 0, api.ErrOver}, {"1125899907.0", 0, api.ErrOver},
		{"999999999999999999", 0, api.ErrOver}, {"999999999999999999.999999", 0, api.ErrOver}, {"100000000000000000.0", 0, api.ErrOver},
		{"18446744073710", 0, api.ErrOver}, {"9223372036855", 0, api.ErrOver}, {"9223372036854.775808", 0, api.ErrOver},
	})
	refuses(t, ParseMoney, wrong()...)
	refuses(t, ParseMoney, "1m", "0m", "1Ki", "1Mi", "1Gi", "1Ti", "999999999999999999.", "999999999999999999.0000000", "1.a", "1.00000a")
}

// TestFormAhead: P2.1 to P2.3: a text that is none is ErrForm, however great its digits are.
func TestFormAhead(t *testing.T) {
	for _, k := range kinds() {
		for _, tail := range []string{" ", "x", "-", "\xff", "mm", "KiKi", "."} {
			if n, e := k.parse("999999999999999999" + tail); n != 0 || e != api.ErrForm {
				t.Errorf("%s %q: %d, %d", k.name, tail, n, e)
			}
		}
	}
}

// each calls does with all texts of at most so many bytes of these.
func each(alphabet string, long int, does func(string)) {
	does("")
	if long == 0 {
		return
	}
	for _, c := range []byte(alphabet) {
		each(alphabet, long-1, func(s string) { does(string(c) + s) })
	}
}

// TestAllShort: P2.1 to P2.3, at all short texts.
func TestAllShort(t *testing.T) {
	for _, k := range kinds() {
		each("019mKMGTi.-+ \xff", 4, func(s string) { k.agrees(t, s) })
		each("0123456789/:", 4, func(s string) { k.agrees(t, s) })
		each("09.", 9, func(s string) { k.agrees(t, s) })
	}
}

// TestAllBytes: P2.1 to P2.3: each byte in each place.
func TestAllBytes(t *testing.T) {
	for _, k := range kinds() {
		for c := range 256 {
			b := string([]byte{byte(c)})
			for _, s := range []string{b, "1" + b, b + "1", "1" + b + "1", "1." + b, "1.5" + b, b + ".5", b + "m", b + "Ki", "1" + b + "i", "1K" + b, "1m" + b, "1Gi" + b} {
				k.agrees(t, s)
			}
		}
	}
}

// TestManyTexts: P2.1 to P2.3, at digits of all lengths, around the bound of each suffix too.
func TestManyTexts(t *testing.T) {
	r := rand.New(rand.NewSource(2))
	tails := []string{"", "m", "Ki", "Mi", "Gi", "Ti", ".", ".0", ".5", ".842624", ".842625", ".000001", ".0000001", "mi"}
	for _, k := range kinds() {
		for _, tail := range tails {
			for long := 1; long <= 21; long++ {
				for range 50 {
					b := make([]byte, long)
					for i := range b {
						b[i] = byte('0' + r.Intn(10))
					}
					k.agrees(t, string(b)+tail)
				}
				k.agrees(t, strings.Repeat("9", long)+tail)
				k.agrees(t, "1"+strings.Repeat("0", long-1)+tail)
				k.agrees(t, strings.Repeat("0", long)+tail)
			}
			for _, each := range []int64{1, 1000, 1000000, 1 << 10, 1 << 20, 1 << 30, 1 << 40} {
				for d := int64(-2); d <= 2; d++ {
					k.agrees(t, strconv.FormatInt(most/each+d, 10)+tail)
				}
			}
		}
	}
}

// TestLong: R1: a text of any length is told.
func TestLong(t *testing.T) {
	for _, k := range kinds() {
		for _, c := range []string{"0", "9", "m", "Ki", ".", "\xff", "1."} {
			for _, s := range []string{strings.Repeat(c, 1<<20), "1" + strings.Repeat(c, 1<<20), "1." + strings.Repeat(c, 1<<20)} {
				if n, e := k.parse(s); n != 0 || e != api.ErrForm {
					t.Errorf("%s %q..: %d, %d", k.name, s[:4], n, e)
				}
			}
		}
	}
}

// TestPrint: P2.4.
func TestPrint(t *testing.T) {
	for _, c := range []struct {
		name  string
		print func(int64) (string, api.Errno)
		want  map[int64]string
	}{
		{"CPU", PrintCPU, map[int64]string{
			2000: "2", 1500: "1500m", 0: "0", 1: "1m", 999: "999m", 1000: "1", 1001: "1001m", 10000: "10", 1000000: "1000", 1000100: "1000100m",
			most: "1125899906842624m", most - 624: "1125899906842", most - 1: "1125899906842623m",
		}},
		{"bytes", PrintBytes, map[int64]string{
			1 << 32: "4Gi", 3000: "3000", 1<<20 + 1<<10: "1025Ki", 0: "0", 1: "1", 1023: "1023", 1 << 10: "1Ki", 1<<10 + 1: "1025", 1536: "1536",
			1 << 20: "1Mi", 1 << 30: "1Gi", 1 << 40: "1Ti", 1<<40 - 1: "1099511627775", 1<<40 + 1<<30: "1025Gi", 1<<40 + 1<<20: "1048577Mi", 1<<40 + 1<<10: "1073741825Ki", 512 << 30: "512Gi",
			1 << 9: "512", 1 << 19: "512Ki", 1 << 29: "512Mi", 1 << 49: "512Ti", most: "1024Ti", most - 1: "1125899906842623", most - 1<<10: "1099511627775Ki",
		}},
		{"money", PrintMoney, map[int64]string{
			3000000: "3", 40: "0.00004", 1500000: "1.5", 0: "0", 1: "0.000001", 10: "0.00001", 100: "0.0001", 1000: "0.001", 10000: "0.01", 100000: "0.1", 1000000: "1", 10000000: "10",
			999999: "0.999999", 1000001: "1.000001", 1050000: "1.05", 1010100: "1.0101", 123456: "0.123456", 20300000: "20.3",
			most: "1125899906.842624", most - 1: "1125899906.842623", most - 24: "1125899906.8426",
		}},
	} {
		for n, want := range c.want {
			if s, e := c.print(n); s != want || e != api.OK {
				t.Errorf("%s %d: %q, %d, not %q", c.name, n, s, e, want)
			}
		}
		for n, want := range map[int64]api.Errno{
			-1: api.ErrBelow, -1000: api.ErrBelow, -1 << 40: api.ErrBelow, -most: api.ErrBelow, math.MinInt64: api.ErrBelow,
			most + 1: api.ErrOver, 2 * most: api.ErrOver, 1 << 60: api.ErrOver, math.MaxInt64: api.ErrOver,
		} {
			if s, e := c.print(n); s != "" || e != want {
				t.Errorf("%s %d: %q, %d, not %d", c.name, n, s, e, want)
			}
		}
	}
}

// amounts are some of all sizes, and those around each suffix.
func amounts() []int64 {
	r := rand.New(rand.NewSource(1))
	l := []int64{}
	for n := range int64(5000) {
		l = append(l, n)
	}
	for k := range 51 {
		for d := int64(-3); d <= 3; d++ {
			l = append(l, 1<<k+d)
		}
		for range 40 {
			n := r.Int63n(1<<k + 1)
			l = append(l, n, n/1000*1000, n>>10<<10, n>>20<<20, n>>30<<30, n>>40<<40, n/1000000*1000000, n/100*100)
		}
	}
	some := []int64{}
	for _, n := range l {
		if n >= 0 && n <= most {
			some = append(some, n)
		}
	}
	return some
}

// TestPrinted: P2.5: what is printed is parsed as what it was; unlike amounts have unlike texts.
func TestPrinted(t *testing.T) {
	for _, k := range kinds() {
		had := map[string]int64{}
		for _, n := range amounts() {
			s, e := k.print(n)
			if e != api.OK {
				t.Fatal(k.name, n, e)
			}
			if back, e := k.parse(s); back != n || e != api.OK {
				t.Errorf("%s %d: %q, %d, %d", k.name, n, s, back, e)
			}
			if other, there := had[s]; there && other != n {
				t.Errorf("%s %q: %d and %d", k.name, s, n, other)
			}
			had[s] = n
		}
	}
}

// TestParsed: P2.5: what is parsed, printed, is parsed as the same.
func TestParsed(t *testing.T) {
	for _, k := range kinds() {
		parsed := 0
		keeps := func(s string) {
			n, e := k.parse(s)
			if e != api.OK {
				return
			}
			parsed++
			text, e := k.print(n)
			if e != api.OK {
				t.Fatal(k.name, s, n, e)
			}
			if again, e := k.parse(text); again != n || e != api.OK {
				t.Errorf("%s %q: %d, %q, %d, %d", k.name, s, n, text, again, e)
			}
		}
		each("0129mKMi.", 5, keeps)
		for _, n := range amounts() {
			for _, tail := range []string{"", "m", "Ki", "Mi", "Gi", "Ti", ".0", ".50", ".000001"} {
				keeps(strconv.FormatInt(n, 10) + tail)
			}
		}
		if parsed < 10000 {
			t.Error(k.name, parsed)
		}
	}
}

// TestSuffixes: P2.6: a suffix makes digits so many times as many, where that is told.
func TestSuffixes(t *testing.T) {
	for _, c := range []struct {
		parse      func(string) (int64, api.Errno)
		few, many  string
		times      int64
		last, over string
	}{
		{ParseCPU, "m", "", 1000, "1125899906842", "1125899906843"},
		{ParseBytes, "", "Ki", 1 << 10, "1099511627776", "1099511627777"},
		{ParseBytes, "Ki", "Mi", 1 << 10, "1073741824", "1073741825"},
		{ParseBytes, "Mi", "Gi", 1 << 10, "1048576", "1048577"},
		{ParseBytes, "Gi", "Ti", 1 << 10, "1024", "1025"},
		{ParseBytes, "", "Ti", 1 << 40, "1024", "1025"},
	} {
		for _, n := range amounts() {
			digits := strconv.FormatInt(n, 10)
			few, e := c.parse(digits + c.few)
			many, f := c.parse(digits + c.many)
			told := e == api.OK && few <= most/c.times
			if told && (f != api.OK || many != few*c.times) || !told && (f != api.ErrOver || many != 0) {
				t.Errorf("%s%s, %s%s: %d, %d, %d, %d", digits, c.few, digits, c.many, few, e, many, f)
			}
		}
		if _, e := c.parse(c.last + c.many); e != api.OK {
			t.Error(c.last, c.many, e)
		}
		if n, e := c.parse(c.over + c.many); n != 0 || e != api.ErrOver {
			t.Error(c.over, c.many, n, e)
		}
	}
}
