package orthography

// The texts of the fixed orthographies.
const (
	latin = `orthography latin
a a/v3 1 anywhere
e e/v3 1 anywhere
i i/v3 1 anywhere
o o/v3 1 anywhere
u u/v3 1 anywhere
y y/v3 1 anywhere
a_ a_/v2 1 anywhere
e_ e_/v2 1 anywhere
i_ i_/v2 1 anywhere
o_ o_/v2 1 anywhere
u_ u_/v2 1 anywhere
y_ y_/v2 1 anywhere
a^ a^/v1 1 anywhere
e^ e^/v1 1 anywhere
i^ i^/v1 1 anywhere
o^ o^/v1 1 anywhere
u^ u^/v1 1 anywhere
y^ y^/v1 1 anywhere
ae ae/d2 1 anywhere
au au/d2 1 anywhere
oe oe/d2 1 anywhere
eu eu/d2 3 anywhere
i i/g 0 start
i i/g i/g 0 between
u u/g 0 start
u u/g 0 between
j j/g 0 anywhere
v v/g 0 anywhere
qu qu/m 0 before
gu gu/m 2 before
su s/s u/g 3 before
b b/m 0 anywhere
c c/m 0 anywhere
d d/m 0 anywhere
f f/m 0 anywhere
g g/m 0 anywhere
k k/m 0 anywhere
p p/m 0 anywhere
t t/m 0 anywhere
l l/l 0 anywhere
r r/l 0 anywhere
m m/n 0 anywhere
n n/n 0 anywhere
s s/s 0 anywhere
x x/x 0 anywhere
z z/x 0 anywhere
h h/b 0 anywhere
`

	greek = `orthography greek
a a/v3 1 anywhere
i i/v3 1 anywhere
u u/v3 1 anywhere
a_ a_/v2 1 anywhere
i_ i_/v2 1 anywhere
u_ u_/v2 1 anywhere
a^ a^/v1 1 anywhere
i^ i^/v1 1 anywhere
u^ u^/v1 1 anywhere
e e/v1 1 anywhere
o o/v1 1 anywhere
e_ e_/v2 1 anywhere
o_ o_/v2 1 anywhere
ai ai/d2 1 anywhere
au au/d2 1 anywhere
ei ei/d2 1 anywhere
eu eu/d2 1 anywhere
oi oi/d2 1 anywhere
ou ou/d2 1 anywhere
ui ui/d2 1 anywhere
ph ph/m 0 anywhere
th th/m 0 anywhere
kh kh/m 0 anywhere
p p/m 0 anywhere
t t/m 0 anywhere
k k/m 0 anywhere
b b/m 0 anywhere
d d/m 0 anywhere
g g/m 0 anywhere
rh rh/l 0 anywhere
l l/l 0 anywhere
r r/l 0 anywhere
m m/n 0 anywhere
n n/n 0 anywhere
s s/s 0 anywhere
ps ps/x 0 anywhere
ks ks/x 0 anywhere
x x/x 0 anywhere
z z/x 0 anywhere
h h/b 0 start
`
)
