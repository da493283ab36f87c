"""The one form: what load takes, shown tells; the one form is read as the same program."""

import unittest

from helper import FUNS, LETS, SHOWN, SIZES, ProgramCase, asked_of, shown_text

WIDE = """# every form once
chance   Wide budget 20
def none( )num -5 5=0;def four(a flag,b num 0 1,c num -1000 -1000,d flag)flag=and(a,d);
let a=true;let b flag=false;let c=-7;let d num -9 9=c;
observe not(b)
;let e=if(a,1,2);let f=given(a,c);let g=weigh(6/4,c);let h=pick(a:0,b:2/4,flip(3/3):4/2);
let i=uniform(-3,3);let j=four(a,1,-1000,flip(0/3));let k=none();
observe or(lt(c,d),or(le(c,d),eq(c,d)));
let l=add(sub(1,2),mul(min(1,2),max(abs(-3),neg(4))));
tell l,a
"""

WIDE_FORM = """\
chance Wide
budget 20
def none() num -5 5 = 0 ;
def four(a flag, b num 0 1, c num -1000 -1000, d flag) flag = and(a, d) ;
let a = true ;
let b flag = false ;
let c = -7 ;
let d num -9 9 = c ;
observe not(b) ;
let e = if(a, 1, 2) ;
let f = given(a, c) ;
let g = weigh(3/2, c) ;
let h = pick(a : 0, b : 1/2, flip(1) : 2) ;
let i = uniform(-3, 3) ;
let j = four(a, 1, -1000, flip(0)) ;
let k = none() ;
observe or(lt(c, d), or(le(c, d), eq(c, d))) ;
let l = add(sub(1, 2), mul(min(1, 2), max(abs(-3), neg(4)))) ;
tell l, a
"""


class OneForm(ProgramCase):
    def test_every_form(self):
        self.assertEqual(shown_text(WIDE), WIDE_FORM)

    def test_shown_again_is_the_same(self):
        self.assertEqual(shown_text(WIDE_FORM), WIDE_FORM)

    def test_the_one_form_is_the_same_program(self):
        calls = [[SIZES], [SHOWN]] + [[LETS, k] for k in range(13)] + [[FUNS, k] for k in range(3)]
        self.assertEqual(asked_of(WIDE, *calls), asked_of(WIDE_FORM, *calls))

    def test_the_least_program(self):
        self.assertEqual(shown_text("chance P let x=0;tell x"), "chance P\nlet x = 0 ;\ntell x\n")

    def test_budget(self):
        self.assertEqual(shown_text("chance P budget 0 let x=0;tell x"), "chance P\nlet x = 0 ;\ntell x\n")
        self.assertEqual(shown_text("chance P budget 1 let x=0;tell x"), "chance P\nbudget 1\nlet x = 0 ;\ntell x\n")

    def test_a_kind_found_out_is_not_shown(self):
        self.assertEqual(shown_text("chance P let x=0;let y num 0 0=x;tell x"),
                         "chance P\nlet x = 0 ;\nlet y num 0 0 = x ;\ntell x\n")

    def test_names_are_kept_as_they_are(self):
        self.assertEqual(shown_text("chance or let Add=0;let add=Add;tell add,Add"),
                         "chance or\nlet Add = 0 ;\nlet add = Add ;\ntell add, Add\n")


if __name__ == "__main__":
    unittest.main()
