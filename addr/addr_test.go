package addr

import (
	"math"
	"math/rand"
	"strconv"
	"strings"
	"testing"

	"rung/api"
)

// region is a row of the document, written out by hand: an area, its texts'
// beginning, its size, whether it is of bits, the number of its first place in
// its table, and the functions of that table.
type region struct {
	area  int
	name  string
	size  int
	bit   bool
	first int
	fns   []byte
}

var regions = []region{
	{1, "%IX", 128, true, 0, []byte{2}},
	{2, "%QX", 128, true, 0, []byte{1, 5, 15}},
	{3, "%MX", 128, true, 128, []byte{1, 5, 15}},
	{4, "%IW", 64, false, 0, []byte{4}},
	{5, "%QW", 64, false, 0, []byte{3, 6, 16, 22, 23}},
	{6, "%MW", 64, false, 64, []byte{3, 6, 16, 22, 23}},
}

type spot struct{ area, offset int }

// allTexts writes out every address that there is.
func allTexts() map[string]spot {
	texts := map[string]spot{}
	for _, r := range regions {
		for i := 0; i < r.size; i++ {
			text := r.name + strconv.Itoa(i)
			if r.bit {
				text = r.name + strconv.Itoa(i>>3) + "." + strconv.Itoa(i&7)
			}
			texts[text] = spot{r.area, i}
		}
	}
	return texts
}

func wantParse(t *testing.T, texts map[string]spot, s string) {
	t.Helper()
	want, ok := texts[s]
	wantErr := api.ErrAddr
	if ok {
		wantErr = api.OK
	}
	if area, offset, e := Parse(s); area != want.area || offset != want.offset || e != wantErr {
		t.Fatalf("P10.1: Parse(%q): %d, %d, %v; want %d, %d, %v", s, area, offset, e, want.area, want.offset, wantErr)
	}
}

// P10.1: the areas have their names' numbers, their sizes, and are of bits or
// registers; others have no place.
func TestAreas(t *testing.T) {
	named := []int{api.AreaIX, api.AreaQX, api.AreaMX, api.AreaIW, api.AreaQW, api.AreaMW}
	for i, r := range regions {
		if named[i] != r.area || Size(r.area) != r.size || Bit(r.area) != r.bit {
			t.Errorf("P10.1: area %s: %d places, bits %v", r.name, Size(r.area), Bit(r.area))
		}
	}
	for _, area := range []int{api.AreaNone, 7, 8, 9, 255, 256, -1, -6, math.MaxInt, math.MinInt} {
		if Size(area) != 0 || Bit(area) {
			t.Errorf("P10.1: no area %d: %d places, bits %v", area, Size(area), Bit(area))
		}
		for _, offset := range []int{-1, 0, 1, 63, 64, 127, 128, math.MaxInt, math.MinInt} {
			if Text(area, offset) != "" || Coil(area, offset) != -1 {
				t.Errorf("P10.1, P10.2: no area %d, place %d: %q, %d", area, offset, Text(area, offset), Coil(area, offset))
			}
		}
	}
}

// P10.1: the document's examples, and each area's first and last texts.
func TestParseExamples(t *testing.T) {
	for _, x := range []struct {
		s            string
		area, offset int
	}{
		{"%QX1.3", api.AreaQX, 11},
		{"%IX0.0", api.AreaIX, 0}, {"%IX0.7", api.AreaIX, 7}, {"%IX1.0", api.AreaIX, 8}, {"%IX15.7", api.AreaIX, 127},
		{"%QX0.0", api.AreaQX, 0}, {"%QX9.7", api.AreaQX, 79}, {"%QX10.0", api.AreaQX, 80}, {"%QX15.7", api.AreaQX, 127},
		{"%MX0.0", api.AreaMX, 0}, {"%MX15.0", api.AreaMX, 120}, {"%MX15.7", api.AreaMX, 127},
		{"%IW0", api.AreaIW, 0}, {"%IW9", api.AreaIW, 9}, {"%IW10", api.AreaIW, 10}, {"%IW63", api.AreaIW, 63},
		{"%QW0", api.AreaQW, 0}, {"%QW63", api.AreaQW, 63},
		{"%MW0", api.AreaMW, 0}, {"%MW6", api.AreaMW, 6}, {"%MW63", api.AreaMW, 63},
	} {
		if area, offset, e := Parse(x.s); area != x.area || offset != x.offset || e != api.OK {
			t.Errorf("P10.1: Parse(%q): %d, %d, %v", x.s, area, offset, e)
		}
		if s := Text(x.area, x.offset); s != x.s {
			t.Errorf("P10.1: Text(%d, %d): %q; want %q", x.area, x.offset, s, x.s)
		}
	}
}

// P10.1: what is no address: other signs, places that there aren't, noughts
// ahead, more than three digits; zeros beside the error.
func TestParseRefuses(t *testing.T) {
	texts := allTexts()
	for _, s := range []string{
		"", "%", "%%", "I", "%I", "%IX", "%IW", "%X0.0", "%W0", "%0", "0", "0.0", ".", "%.",
		"%IX0", "%IX0.", "%IX.0", "%IX.", "%IX..", "%IX0..0", "%IX0.0.", "%IX0.0.0", "%IX.0.0", "%IX0,0", "%IX0:0",
		"%IX0.8", "%IX0.9", "%IX0.10", "%IX1.127", "%IX16.0", "%IX17.0", "%IX127.7", "%IX128.0", "%IX999.7",
		"%IX00.0", "%IX01.0", "%IX015.7", "%IX0.00", "%IX0.07", "%IX15.07", "%IX0015.7", "%IX0000.0", "%IX0.0000",
		"%IX1000.0", "%IX0.1000", "%IX4294967296.0", "%IX18446744073709551616.0", "%IX2305843009213693952.0",
		"%IW64", "%QW64", "%MW64", "%IW65", "%IW99", "%IW100", "%IW127", "%IW999", "%IW1000", "%IW0000", "%IW00", "%IW01", "%IW000", "%IW063", "%IW0063",
		"%IW4294967296", "%IW18446744073709551616", "%IW-0", "%IW-1", "%IW+1", "%IW1.", "%IW.1", "%IW0.0", "%IW1.0", "%IW1e1", "%IW0x1", "%IW1_0",
		"%IX-1.0", "%IX+1.0", "%IX0.-0", "%IX0.+0", "%IX1.-1", "%IX0x1.0",
		"%ix0.0", "%iX0.0", "%Ix0.0", "%iw0", "IX0.0", "IW0", "&IX0.0",
		"%QB0", "%QD0", "%QL0", "%MD0", "%AX0.0", "%X", "%I0.0", "%IXX0.0", "%IXW0", "%%IX0.0", "%IX%IX0.0",
		" %IX0.0", "%IX0.0 ", "%IX 0.0", "%IX0 .0", "%IX0. 0", "% IX0.0", "%IW 1", "%IW1 ", "%IW\t1", "%IW1\n", "%IW1\x00", "\x00%IW1",
		"%IW\u0663", "%IW\uff11", "\uff05IW1", "%IW\xb1", "%IX\u0661.0", "%IX0.\u0661", "%IX0\u30020", "\xff", "%IW\xff", "%IX0\u00b70",
	} {
		if _, ok := texts[s]; ok {
			t.Fatalf("%q is an address", s)
		}
		wantParse(t, texts, s)
	}
	for _, head := range []string{"%IW", "%IX", "%IX0.", "%IX1.", "%", ""} {
		for _, piece := range []string{"0", "1", "9", ".", "%IW0", "%IX0.0"} {
			wantParse(t, texts, head+strings.Repeat(piece, 1<<16))
		}
	}
}

// P10.1: all numbers of up to four digits, with noughts ahead and without.
func TestParseNumbers(t *testing.T) {
	texts := allTexts()
	var numbers []string
	for width := 1; width <= 4; width++ {
		for n := 0; n < int(math.Pow10(width)); n++ {
			s := strconv.Itoa(n)
			numbers = append(numbers, strings.Repeat("0", width-len(s))+s)
		}
	}
	for _, r := range regions {
		for _, n := range numbers {
			wantParse(t, texts, r.name+n)
			for _, m := range []string{"0", "1", "7", "8", "9", "00", "07", "10", "000", "008", "100", "0000"} {
				wantParse(t, texts, r.name+n+"."+m)
				wantParse(t, texts, r.name+m+"."+n)
			}
		}
	}
}

// P10.1: every address with any one byte more, less or other is what the list
// of all addresses says.
func TestParseNear(t *testing.T) {
	texts := allTexts()
	for s := range texts {
		wantParse(t, texts, s)
		for i := 0; i <= len(s); i++ {
			if i < len(s) {
				wantParse(t, texts, s[:i]+s[i+1:])
			}
			for c := 0; c < 256; c++ {
				wantParse(t, texts, s[:i]+string([]byte{byte(c)})+s[i:])
				if i < len(s) {
					wantParse(t, texts, s[:i]+string([]byte{byte(c)})+s[i+1:])
				}
			}
		}
	}
}

// P10.1: texts put together at random of what addresses are made of.
func TestParseAny(t *testing.T) {
	texts := allTexts()
	pieces := []string{"%", "I", "Q", "M", "X", "W", "B", ".", "0", "1", "7", "8", "15", "63", "64", "-", " ", "%IX", "%QX", "%MX", "%IW", "%QW", "%MW", "\xff"}
	r := rand.New(rand.NewSource(10))
	for range 300000 {
		var s strings.Builder
		for range r.Intn(6) {
			s.WriteString(pieces[r.Intn(len(pieces))])
		}
		wantParse(t, texts, s.String())
	}
}

// P10.1, P10.2: around each area's edges, and far outside, there is no place.
func TestTextCoil(t *testing.T) {
	for _, r := range regions {
		offsets := []int{math.MinInt, math.MinInt + 1, -1 << 32, -256, -128, -64, 256, 1 << 31, 1 << 32, 1<<32 + 1, math.MaxInt - 1, math.MaxInt}
		for i := -10; i < r.size+140; i++ {
			offsets = append(offsets, i)
		}
		for _, i := range offsets {
			text, number := "", -1
			if i >= 0 && i < r.size {
				number = r.first + i
				text = r.name + strconv.Itoa(i)
				if r.bit {
					text = r.name + strconv.Itoa(i>>3) + "." + strconv.Itoa(i&7)
				}
			}
			if got := Text(r.area, i); got != text {
				t.Errorf("P10.1: Text(%d, %d): %q; want %q", r.area, i, got, text)
			}
			if got := Coil(r.area, i); got != number {
				t.Errorf("P10.2: Coil(%d, %d): %d; want %d", r.area, i, got, number)
			}
		}
	}
}

// P10.2: the document's examples, and the tables' edges.
func TestPlaceExamples(t *testing.T) {
	if Coil(api.AreaQX, 11) != 11 || Coil(api.AreaMX, 0) != 128 || Coil(api.AreaMX, 127) != 255 || Coil(api.AreaMW, 6) != 70 || Coil(api.AreaMW, 63) != 127 {
		t.Error("P10.2: Coil")
	}
	for _, x := range []struct {
		fn           byte
		addr         int
		area, offset int
	}{
		{3, 70, api.AreaMW, 6},
		{1, 0, api.AreaQX, 0}, {1, 127, api.AreaQX, 127}, {1, 128, api.AreaMX, 0}, {1, 255, api.AreaMX, 127}, {1, 256, 0, 0}, {1, -1, 0, 0},
		{5, 127, api.AreaQX, 127}, {5, 128, api.AreaMX, 0}, {15, 255, api.AreaMX, 127}, {15, 256, 0, 0},
		{2, 0, api.AreaIX, 0}, {2, 127, api.AreaIX, 127}, {2, 128, 0, 0}, {2, -1, 0, 0},
		{3, 0, api.AreaQW, 0}, {3, 63, api.AreaQW, 63}, {3, 64, api.AreaMW, 0}, {3, 127, api.AreaMW, 63}, {3, 128, 0, 0}, {3, -1, 0, 0},
		{6, 64, api.AreaMW, 0}, {16, 127, api.AreaMW, 63}, {22, 63, api.AreaQW, 63}, {23, 128, 0, 0},
		{4, 0, api.AreaIW, 0}, {4, 63, api.AreaIW, 63}, {4, 64, 0, 0}, {4, -1, 0, 0},
		{0, 0, 0, 0}, {7, 0, 0, 0}, {0x81, 0, 0, 0}, {255, 0, 0, 0},
	} {
		if area, offset := Place(x.fn, x.addr); area != x.area || offset != x.offset {
			t.Errorf("P10.2: Place(%d, %d): %d, %d; want %d, %d", x.fn, x.addr, area, offset, x.area, x.offset)
		}
	}
}

// P10.2: all functions, and all numbers in and around the tables, and far off.
func TestPlace(t *testing.T) {
	addrs := []int{math.MinInt, math.MinInt + 1, math.MinInt + 63, math.MinInt + 64, math.MinInt + 127, math.MinInt + 128, math.MaxInt - 127, math.MaxInt - 63, math.MaxInt, -1 << 32, -1 << 16, 1 << 16, 1<<16 + 1, 1 << 32, 1<<32 + 1, 1 << 40}
	for i := -300; i < 600; i++ {
		addrs = append(addrs, i)
	}
	for fn := 0; fn < 256; fn++ {
		for _, addr := range addrs {
			var want spot
			for _, r := range regions {
				for _, f := range r.fns {
					if int(f) == fn && addr >= r.first && addr < r.first+r.size {
						want = spot{r.area, addr - r.first}
					}
				}
			}
			if area, offset := Place(byte(fn), addr); area != want.area || offset != want.offset {
				t.Fatalf("P10.2: Place(%d, %d): %d, %d; want %d, %d", fn, addr, area, offset, want.area, want.offset)
			}
		}
	}
}

// P10.3: no two places have one text, or one number in one table; from both
// the place is found again, by each function of the table.
func TestOneTextOneNumber(t *testing.T) {
	texts := map[string]spot{}
	type entry struct {
		fn     byte
		number int
	}
	numbers := map[entry]spot{}
	for _, r := range regions {
		for i := 0; i < Size(r.area); i++ {
			here := spot{r.area, i}
			text, number := Text(r.area, i), Coil(r.area, i)
			if other, ok := texts[text]; ok {
				t.Errorf("P10.3: %q is %v and %v", text, other, here)
			}
			texts[text] = here
			if area, offset, e := Parse(text); e != api.OK || area != r.area || offset != i {
				t.Errorf("P10.3: %v is told as %q, read as %d, %d, %v", here, text, area, offset, e)
			}
			for _, fn := range r.fns {
				if other, ok := numbers[entry{fn, number}]; ok {
					t.Errorf("P10.3: function %d: %d is %v and %v", fn, number, other, here)
				}
				numbers[entry{fn, number}] = here
				if area, offset := Place(fn, number); area != r.area || offset != i {
					t.Errorf("P10.3: %v is function %d's %d, which is %d, %d", here, fn, number, area, offset)
				}
			}
		}
	}
	if len(texts) != 3*128+3*64 || len(numbers) != 128+3*256+64+5*128 {
		t.Errorf("P10.3: %d texts, %d numbers", len(texts), len(numbers))
	}
}
