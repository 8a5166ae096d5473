package orthography_test

import (
	"testing"

	"anceps/api"
	"anceps/orthography"
)

// P12.1: the fixed orthographies have the texts that the chapter prints.
func TestFixedTexts(t *testing.T) {
	const latin = "orthography latin\n" +
		"a a/v3 1 anywhere\ne e/v3 1 anywhere\ni i/v3 1 anywhere\no o/v3 1 anywhere\nu u/v3 1 anywhere\ny y/v3 1 anywhere\n" +
		"a_ a_/v2 1 anywhere\ne_ e_/v2 1 anywhere\ni_ i_/v2 1 anywhere\no_ o_/v2 1 anywhere\nu_ u_/v2 1 anywhere\ny_ y_/v2 1 anywhere\n" +
		"a^ a^/v1 1 anywhere\ne^ e^/v1 1 anywhere\ni^ i^/v1 1 anywhere\no^ o^/v1 1 anywhere\nu^ u^/v1 1 anywhere\ny^ y^/v1 1 anywhere\n" +
		"ae ae/d2 1 anywhere\nau au/d2 1 anywhere\noe oe/d2 1 anywhere\neu eu/d2 3 anywhere\ni i/g 0 start\ni i/g i/g 0 between\n" +
		"u u/g 0 start\nu u/g 0 between\nj j/g 0 anywhere\nv v/g 0 anywhere\nqu qu/m 0 before\ngu gu/m 2 before\n" +
		"su s/s u/g 3 before\nb b/m 0 anywhere\nc c/m 0 anywhere\nd d/m 0 anywhere\nf f/m 0 anywhere\ng g/m 0 anywhere\n" +
		"k k/m 0 anywhere\np p/m 0 anywhere\nt t/m 0 anywhere\nl l/l 0 anywhere\nr r/l 0 anywhere\nm m/n 0 anywhere\n" +
		"n n/n 0 anywhere\ns s/s 0 anywhere\nx x/x 0 anywhere\nz z/x 0 anywhere\nh h/b 0 anywhere\n"
	const greek = "orthography greek\n" +
		"a a/v3 1 anywhere\ni i/v3 1 anywhere\nu u/v3 1 anywhere\na_ a_/v2 1 anywhere\ni_ i_/v2 1 anywhere\nu_ u_/v2 1 anywhere\n" +
		"a^ a^/v1 1 anywhere\ni^ i^/v1 1 anywhere\nu^ u^/v1 1 anywhere\ne e/v1 1 anywhere\no o/v1 1 anywhere\ne_ e_/v2 1 anywhere\n" +
		"o_ o_/v2 1 anywhere\nai ai/d2 1 anywhere\nau au/d2 1 anywhere\nei ei/d2 1 anywhere\neu eu/d2 1 anywhere\noi oi/d2 1 anywhere\n" +
		"ou ou/d2 1 anywhere\nui ui/d2 1 anywhere\nph ph/m 0 anywhere\nth th/m 0 anywhere\nkh kh/m 0 anywhere\np p/m 0 anywhere\n" +
		"t t/m 0 anywhere\nk k/m 0 anywhere\nb b/m 0 anywhere\nd d/m 0 anywhere\ng g/m 0 anywhere\nrh rh/l 0 anywhere\n" +
		"l l/l 0 anywhere\nr r/l 0 anywhere\nm m/n 0 anywhere\nn n/n 0 anywhere\ns s/s 0 anywhere\nps ps/x 0 anywhere\n" +
		"ks ks/x 0 anywhere\nx x/x 0 anywhere\nz z/x 0 anywhere\nh h/b 0 start\n"
	if s, e := orthography.Format(orthography.Latin()); s != latin || e != api.OK {
		t.Errorf("Latin: %d\n%s", e, s)
	}
	if s, e := orthography.Format(orthography.Greek()); s != greek || e != api.OK {
		t.Errorf("Greek: %d\n%s", e, s)
	}
}
