import Derived.WalkKit
import Derived.Lib.TrailingZeros
import Derived.Test.YthllhabjfchgiaaGreatDoorProg
import Derived.WalkSpells
import Derived.WalkLawsBesides
import Derived.Deep.QuietTactic
import Derived.BigQuiet
import Derived.Laws.Bits64b
import Derived.Below
import Derived.Deep.RegionHeld3
import Derived.Deep.AppendLies
import Derived.StillTail
import Derived.Deep.Quiet
set_option maxRecDepth 100000
set_option maxHeartbeats 8000000
set_option linter.unusedSimpArgs false
namespace Go.Proofs.YthllhabjfchgiaaGreatDoor
open _root_.Go.Proofs.Tryz
section
abbrev aj:=@Nat.le_refl
abbrev ak:=@List.setIfInBounds_toArray
abbrev au:=@List.set_cons_zero
abbrev ay:=@List.set_cons_succ
abbrev aA:=@List.length_append
abbrev aC:=@List.take_succ_cons
abbrev aF:=@List.length_cons
abbrev aG:=@List.drop_succ_cons
abbrev aH:=@Bool.false_eq_true
abbrev aI:=@List.mem_cons_of_mem
abbrev aO:=@List.take_zero
abbrev aQ:=@List.drop_zero
abbrev aT:=@List.getElem?_append_left
abbrev aU:=@List.getD_eq_getElem?_getD
abbrev aV:=@Int.le_refl
abbrev aW:=@List.mem_cons_self
abbrev aX:=@List.append_nil
abbrev bg:=@List.length_nil
abbrev bD:=@Nat.zero_le
abbrev bI:=@Int.eq_ofNat_of_zero_le
abbrev bJ:=@Option.some.injEq
abbrev bK:=@Int.toNat_natCast
abbrev bP:=@List.foldl_cons
abbrev bT:=@List.mem_of_getElem?
abbrev bU:=@List.getElem?_eq_getElem
abbrev bV:=@List.getElem?_eq_none
abbrev bW:=@List.getElem?_append_right
abbrev bY:=@List.append_assoc
abbrev bZ:=@List.cons_append
abbrev cO:=@List.mem_singleton
abbrev cZ:=@if_false
abbrev c8:=@List.flatMap_cons
abbrev dh:=@List.mem_cons
abbrev dw:=@List.getElem?_cons_zero
abbrev dA:=@List.drop_eq_getElem_cons
abbrev dD:=@Bool.and_eq_true
abbrev dF:=@List.map_append
abbrev dG:=@Nat.lt_or_ge
abbrev dH:=@Nat.le_trans
abbrev dJ:=@List.flatMap_nil
abbrev dL:=@List.map_cons
abbrev dM:=@if_true
abbrev dO:=@decide_eq_false
abbrev dP:=@List.nil_append
abbrev dQ:=@List.getElem?_set_ne
abbrev dR:=@decide_eq_true
abbrev dS:=@List.mem_of_mem_take
abbrev dU:=@List.not_mem_nil
abbrev dV:=@List.foldl_append
abbrev dW:=@List.eq_nil_of_length_eq_zero
abbrev dY:=@List.getElem?_set_self
abbrev eu:=@List.getElem?_concat_length
abbrev eF:=@List.foldl_nil
abbrev eG:=@List.length_singleton
abbrev eH:=@Array.getElem?_push
abbrev eP:=@List.mem_append_left
abbrev eU:=@List.take_of_length_le
abbrev eX:=@Array.length_toList
abbrev eY:=@Array.size_push
abbrev fA:=@List.length_drop
abbrev fB:=@Int.mul_le_mul_of_nonneg_left
abbrev fC:=@List.singleton_append
abbrev fD:=@Int.le_trans
abbrev fE:=@Nat.add_assoc
abbrev fF:=@List.find?_cons
abbrev fG:=@List.getElem_mem
abbrev fH:=@List.drop_of_length_le
abbrev fJ:=@List.reverse_cons
abbrev fO:=@Array.eq_empty_of_size_eq_zero
abbrev fU:=@List.take_add_one
abbrev fV:=@List.getElem?_map
abbrev fZ:=@Option.some.inj
abbrev gq:=@List.reverse_append
abbrev gu:=@List.flatMap_append
abbrev gG:=@Nat.max_eq_right
abbrev gI:=@List.length_take
abbrev gJ:=@Nat.eq_zero_or_pos
abbrev gK:=@Bool.false_and
abbrev gQ:=@Nat.mul_le_mul_right
abbrev gU:=@List.mem_of_mem_drop
abbrev gV:=@Nat.max_eq_left
abbrev gW:=@Nat.zero_add
abbrev gX:=@Nat.le_total
abbrev gY:=@List.sum_cons
abbrev gZ:=@Bool.false_or
abbrev ig:=@List.reverse_nil
abbrev iq:=@ByteArray.size_extract
abbrev iw:=@List.set_append_right
abbrev iy:=@List.cons.injEq
abbrev iC:=@Int.natCast_add
abbrev iD:=@Bool.true_or
abbrev iE:=@Bool.or_true
abbrev iF:=@Int.toNat_of_nonneg
abbrev iG:=@List.getElem?_take_of_lt
abbrev iH:=@Option.map_some
abbrev iI:=@List.length_set
abbrev iJ:=@Int.natCast_mul
abbrev iK:=@List.take_left
abbrev iL:=@Bool.and_false
abbrev iM:=@List.map_nil
abbrev iO:=@Nat.mod_eq_of_lt
abbrev iP:=@Int.add_assoc
abbrev iQ:=@Bool.or_false
abbrev iR:=@List.getD_cons_zero
abbrev iT:=@List.getD_cons_succ
abbrev iU:=@Bool.or_eq_true
abbrev iV:=@Nat.pow_succ
abbrev iW:=@List.getElem?_take
abbrev iY:=@List.getElem?_cons_succ
abbrev iZ:=@ByteArray.ext
abbrev jc:=@Bool.not_true
abbrev jd:=@And.intro
abbrev je:=@Or.inr
abbrev jf:=@Or.inl
abbrev jg:=@if_neg
abbrev jh:=@if_pos
abbrev ji:=@ByteArray
abbrev jl:=@absurd
abbrev Im(n:Int):Value:=.int .i64 n
abbrev Pt(b o:Nat):Value:=.pointer (some ⟨b,o,none⟩)
abbrev Ad(b o:Nat):Addr:=⟨b,o,none⟩
abbrev Nl:Value:=.slice none 0 0
end
namespace Hx
open Go.RowKit
structure Rd where
 id:Int
 qR:Int
 tZ:Int
 out:Int
 wo:Bool
structure Pk where
 seq:Int
 size:Int
 on:Int
structure Vw where
 jU:List Rd
 kK:List Pk
 jW:List Pk
def jK(x:Int):Prop:=-9223372036854775808<=x/\x<=9223372036854775807
structure Vw.yO(v:Vw):Prop where
 jU:∀r∈v.jU,jK r.id/\jK r.qR/\jK r.tZ/\jK r.out
 kK:∀p∈v.kK,jK p.seq/\jK p.size/\jK p.on
 jW:∀p∈v.jW,jK p.seq/\jK p.size/\jK p.on
def lD(b:Bool):Int:=if b then 1 else 0
def quot(a b:Int):Int:=if b=0 then 0 else wrap64 (a.tdiv b)
def rest(a b:Int):Int:=if b=0 then 0 else a.tmod b
def two(o a b:Int):Int:=
 if o=10 then wrap64 (a+b)else if o=11 then wrap64 (a-b)else if o=12 then wrap64 (a * b)
 else if o=13 then quot a b else if o=14 then rest a b
 else if o=15 then lD (decide (a<b))else if o=16 then lD (decide (a<=b))
 else if o=17 then lD (a==b)else if o=18 then lD (a !=b)
 else if o=19 then bits .and .i64 a b else if o=20 then bits .or .i64 a b else 0
def aqy(x:Int):Int:=IntKind.u64.wrap (bits .and .u64 (x/2) 6148914691236517205+bits .and .u64 x 6148914691236517205)
def aqz(x:Int):Int:=IntKind.u64.wrap (bits .and .u64 (x/4) 3689348814741910323+bits .and .u64 x 3689348814741910323)
def aqA(x:Int):Int:=bits .and .u64 (IntKind.u64.wrap (x/16+x)) 1085102592571150095
def Xx(x:Int)(n:Int):Int:=IntKind.u64.wrap (x+x/n)
def OZ(x:Int):Int:=bits .and .i64 (wrap64 (Xx (Xx (Xx (aqA (aqz (aqy x))) 256) 65536) 4294967296)) 127
def nY(x:Int):Int:=IntKind.u64.wrap x
def tz(x:Int):Int:=Lib.ctz 64 x.toNat
def lowest(x:Int):Int:=if x=0 then -1 else tz x
def xO(x i:Int):Bool:=bits .and .i64 (x/2^i.toNat) 1==1
def Vw.mG(v:Vw)(i:Int):Option Rd:=if i<0 then none else v.jU[i.toNat]?
def Vw.nJ(v:Vw)(i:Int):Option Pk:=
 if 16<=i then v.jW[(i-16).toNat]?else if i<0 then none else v.kK[i.toNat]?
def pK(n:Nat):Int:=wrap64 (wrap64 (2^n)-1)
def Vw.all(v:Vw)(l:Int):Int:=
 if l=0 then pK v.jU.length else if l=1 then pK v.kK.length else wrap64 (pK v.jW.length * 65536)
def uP(o:Int):Option Rd->Int
 |none=>0
 |some r=>if o=28 then r.id else if o=29 then r.qR else if o=30 then r.tZ else if o=31 then r.out else lD r.wo
def yT(o:Int):Option Pk->Int
 |none=>0
 |some p=>if o=33 then p.seq else p.size
def Oo:Option Pk->Option Rd->Bool
 |some p,some r=>xO p.on r.id
 |_,_=>false
def outcome(v:Vw)(o a b:Int):Int:=
 if o=7 then a else if o=8 then wrap64 (-a)else if o=9 then lD (a==0)
 else if o=23 then OZ (nY a)else if o=24 then lowest (nY a)else if o=27 then lD (a== -1)
 else if o=28\/o=29\/o=30\/o=31\/o=32 then uP o (v.mG a)
 else if o=33\/o=34 then yT o (v.nJ a)
 else if o=35 then lD (Oo (v.nJ a) (v.mG b))
 else two o a b
structure St where
 op:Int
 a:Int
 b:Int
 c:Int
 d:Int
 depth:Int
 kD:Int
structure Mc where
 jD:List Int
 left:List Int
 jP:List (Int×Int)
def Mc.get(m:Mc)(i:Int):Int:=m.jD.getD i.toNat 0
def Mc.put(m:Mc)(i x:Int):Mc:={m with jD:=m.jD.set i.toNat x}
def Mc.ni(m:Mc)(i:Int):Int:=m.left.getD i.toNat 0
def Mc.lY(m:Mc)(i x:Int):Mc:={m with left:=m.left.set i.toNat x}
def choose(s:St)(better:Bool)(m:Mc):Mc:=
 if better||m.get s.a== -1 then (m.put s.a (m.get s.c)).put s.b (m.get s.d)else m
def vZ(x y:Int):Int:=bits .or .i64 x (wrap64 (2^(nY y%64).toNat))
def work(v:Vw)(s:St)(m:Mc):Mc:=
 if s.op=6 then m.put s.a s.b
 else if s.op=21 then m.put s.a (v.all s.b)
 else if s.op=22 then m.put s.a (vZ (m.get s.a) (m.get s.b))
 else if s.op=25 then choose s (decide (m.get s.d<m.get s.b)) m
 else if s.op=26 then choose s (decide (m.get s.b<m.get s.d)) m
 else m.put s.a (outcome v s.op (m.get s.b) (m.get s.c))
def rX(v:Vw)(s:St)(m:Mc):Mc:=m.lY s.depth (nY (bits .and .i64 (m.get s.c) (v.all s.a)))
def kR(s:St)(loop:Int)(m:Mc):Mc×Int:=
 if m.ni s.depth=0 then (m,s.kD)
 else ((m.put s.b (tz (m.ni s.depth))).lY s.depth (bits .and .u64 (m.ni s.depth) (IntKind.u64.wrap (m.ni s.depth-1))),loop+1)
def St.slot(n:Nat)(x:Int):Prop:=0<=x/\x<n
def St.TP(n:Nat)(s:St):Prop:=
 jK s.b/\slot n s.a/\(s.op=6\/s.op=21\/(slot n s.b/\(s.op=22\/(slot n s.c/\((s.op=25\/s.op=26)->slot n s.d)))))
theorem D7(x:Int):jK (wrap64 x):=by unfold wrap64 jK;omega
theorem IZ(b:Bool):jK (lD b):=by unfold lD jK;split<;>omega
theorem Kv(o:BinOp)(x y:Int):jK (bits o .i64 x y):=⟨bits_lo_i64 _ _ _,bits_hi_i64 _ _ _⟩
theorem anw(a b:Int)(h:jK a):jK (a.tmod b):=by
 unfold jK at *;by_cases d:0<=a
 .have e:=Int.tmod_nonneg b d;have c:a.tmod b<=a:=by
   obtain⟨n,rfl⟩:=bI d;have:((n:Int).tmod b).natAbs<=n:=by rw[Int.natAbs_tmod];exact Nat.mod_le _ _
   omega
  omega
 .have e:(a.tmod b).natAbs<=a.natAbs:=by rw[Int.natAbs_tmod];exact Nat.mod_le _ _
  have c:=Int.tmod_nonneg b (show 0<= -a by omega);rw[Int.neg_tmod]at c;omega
theorem anu(a b:Int)(h:jK a):jK (rest a b):=by
 unfold rest;split
 .unfold jK;omega
 .exact anw a b h
theorem ant(a b:Int):jK (quot a b):=by
 unfold quot;split
 .unfold jK;omega
 .exact D7 _
theorem D8:jK 0:=by unfold jK;omega
theorem Wp(o a b:Int)(h:jK a):jK (two o a b):=by
 unfold two;repeat' split
 all_goals first|exact D7 _|exact IZ _|exact Kv _ _ _|exact ant _ _|exact anu _ _ h|exact D8
theorem aii(x:Int)(b:0<=x)(h:x<18446744073709551616):0<=tz x/\tz x<=64:=by
 unfold tz;refine⟨by omega,?_⟩;by_cases a:x.toNat=0
 .simp[Lib.ctz,a]
 .have:=(Lib.lowest_bit 64 x.toNat a (by omega)).2;omega
theorem anp(x:Int)(a:0<=x)(h:x<18446744073709551616):jK (lowest x):=by
 have:=aii x a h;unfold lowest jK;split<;>omega
theorem Vw.aeV{v:Vw}{i:Int}{r:Rd}(h:v.mG i=some r):r∈v.jU:=by
 simp only[Vw.mG]at h;split at h
 .cases h
 .exact bT h
theorem Vw.aeU{v:Vw}{i:Int}{p:Pk}(h:v.nJ i=some p):p∈v.kK\/p∈v.jW:=by
 simp only[Vw.nJ]at h;split at h
 .exact je (bT h)
 .split at h
  .cases h
  .exact jf (bT h)
theorem anr{v:Vw}(a:v.yO)(o i:Int):jK (uP o (v.mG i)):=by
 cases h:v.mG i with
 |none=>exact D8
 |some r=>
  obtain⟨b,c,d,e⟩:=a.jU r (Vw.aeV h);simp only[uP];repeat' split
  all_goals first|assumption|exact IZ _
theorem anq{v:Vw}(a:v.yO)(o i:Int):jK (yT o (v.nJ i)):=by
 cases h:v.nJ i with
 |none=>exact D8
 |some p=>
  have b:jK p.seq/\jK p.size:=by
   rcases Vw.aeU h with h|h
   .exact⟨(a.kK p h).1,(a.kK p h).2.1⟩
   .exact⟨(a.jW p h).1,(a.jW p h).2.1⟩
  simp only[yT];split
  .exact b.1
  .exact b.2
theorem FT(a:Int):0<=nY a/\nY a<18446744073709551616:=by
 unfold nY;rw[IntKind.wrap_u64];omega
theorem Wj{v:Vw}(c:v.yO)(o a b:Int)(h:jK a):jK (outcome v o a b):=by
 unfold outcome;repeat' split
 all_goals first|exact h|exact D7 _|exact IZ _|exact Kv _ _ _|exact anp _ (FT a).1 (FT a).2|exact anr c _ _|exact anq c _ _|exact Wp _ _ _ h
end Hx
section
abbrev jk:=@Go.World
end
section
open Go.RowKit
theorem zI{k:IntKind}{a b:Int}(h:a=b):Ending.returned (.int k a)=.returned (.int k b):=by rw[h]
theorem BF{a b:Bool}(h:a=b):Ending.returned (.bool a)=.returned (.bool b):=by rw[h]
theorem LU(b:Bool)(w:jk):
 Calls prog 152 #[.bool b] w λe a=>e=.returned (Im (Hx.lD b))/\a=w:=by
 cases b
 .go_enter func152,ntmps152;go_wp2;go_ret;exact⟨rfl,rfl⟩
 .go_enter func152,ntmps152;go_wp2;go_ret;exact⟨rfl,rfl⟩
theorem arX(a b:Int)(w:jk):
 Calls prog 200 #[Im a,Im b] w λe c=>e=.returned (Im (Hx.quot a b))/\c=w:=by
 by_cases h:b=0
 .subst h;go_enter func200,ntmps200;go_wp2;go_ret;exact⟨zI (by simp[Hx.quot]),rfl⟩
 .have d:(b==0)=false:=by simpa using h
  go_enter func200,ntmps200;go_wp2;go_ret;exact⟨zI (by simp[Hx.quot,h]),rfl⟩
theorem asj(a b:Int)(w:jk):
 Calls prog 201 #[Im a,Im b] w λe c=>e=.returned (Im (Hx.rest a b))/\c=w:=by
 by_cases h:b=0
 .subst h;go_enter func201,ntmps201;go_wp2;go_ret;exact⟨zI (by simp[Hx.rest]),rfl⟩
 .have d:(b==0)=false:=by simpa using h
  go_enter func201,ntmps201;go_wp2;go_ret;exact⟨zI (by simp[Hx.rest,h]),rfl⟩
theorem afN(o a b:Int)(w:jk):
 Calls prog 158 #[.int .u8 o,Im a,Im b] w λe c=>e=.returned (Im (Hx.two o a b))/\c=w:=by
 go_enter func158,ntmps158;go_wp2_with (first
  |(go_at_call 200;refine(arX _ _ _).mono ?_;rintro e c ⟨rfl,rfl⟩)
  |(go_at_call 201;refine(asj _ _ _).mono ?_;rintro e c ⟨rfl,rfl⟩)
  |(go_at_call 152;refine(LU _ _).mono ?_;rintro e c ⟨rfl,rfl⟩))
 all_goals (go_ret;exact⟨zI (by simp_all [Hx.two]),rfl⟩)
theorem aqB(x:Int)(w:jk):
 Calls prog 199 #[.int .u64 x] w λe a=>e=.returned (Im (Hx.OZ x))/\a=w:=by
 go_enter func199,ntmps199;go_wp2;go_ret;exact⟨rfl,rfl⟩
theorem aqD(x:Int)(w:jk):
 Calls prog 153 #[.int .u64 x] w λe a=>e=.returned (Im (Hx.OZ x))/\a=w:=by
 go_enter func153,ntmps153;go_wp2_with (go_at_call 199;refine(aqB _ _).mono ?_;rintro e a ⟨rfl,rfl⟩);go_ret;exact⟨rfl,rfl⟩
def wO(w:jk):Prop:=∀j,j<64->w.cell? (Ad 1 j)=some (.int .u8 (Lib.deBruijn64tab.getD j 0))
theorem avi(x a:Nat)(d:x<18446744073709551616)(e:x≠0)(b:x&&&(18446744073709551616-x)=a):
 IntKind.u64.wrap (bits BinOp.and IntKind.u64 (x:Int) (IntKind.u64.wrap (-(x:Int))) * 285870213051353865)/288230376151711744=((a * 285870213051353865%18446744073709551616/288230376151711744:Nat):Int):=by
 have c:IntKind.u64.wrap (-(x:Int))=((18446744073709551616-x:Nat):Int):=by rw[IntKind.wrap_u64];omega
 rw[c,bits_and_u64_nat x _ d (by omega),b,IntKind.wrap_u64];omega
theorem avh(x k a:Nat)(w:jk)(d:((x:Int)==0)=false)
 (c:IntKind.u64.wrap (bits BinOp.and IntKind.u64 (x:Int) (IntKind.u64.wrap (-(x:Int))) * 285870213051353865)/288230376151711744=(a:Int))
 (hi:a<64)(g:k<64)(b:w.cell? (Ad 1 a)=some (.int .u8 k)):
 Calls prog 151 #[.int .u64 x] w λe f=>e=.returned (Im k)/\f=w:=by
 go_enter func151,ntmps151;go_wp2_with (simp only[c]);go_ret;exact⟨rfl,rfl⟩
theorem avg(x:Int)(i:0<=x)(l:x<18446744073709551616)(w:jk)(j:wO w):
 Calls prog 151 #[.int .u64 x] w λe k=>e=.returned (Im (Hx.tz x))/\k=w:=by
 obtain⟨n,rfl⟩:=bI i;by_cases f:n=0
 .subst f;go_enter func151,ntmps151;go_wp2;go_ret;exact⟨rfl,rfl⟩
 .have d:n<2^64:=by simp;omega
  obtain⟨b,h⟩:=Lib.lowest_bit 64 n f d;obtain⟨g,c⟩:=Lib.deBruijn64_at _ h;have a:=j _ g;rw[c]at a;exact avh n _ _ w (by simp;omega) (avi n _ (by omega) f b) g h a
theorem aif(x:Int)(c:0<=x)(d:x<18446744073709551616)(w:jk)(b:wO w):
 Calls prog 96 #[.int .u64 x] w λe a=>e=.returned (Im (Hx.tz x))/\a=w:=by
 go_enter func96,ntmps96;go_wp2_with (go_at_call 151;refine(avg _ ?_ ?_ _ b).mono ?_;(first|assumption|omega);(first|assumption|omega);rintro e a ⟨rfl,rfl⟩);go_ret;exact⟨rfl,rfl⟩
end
section
abbrev dN:=@Go.Calls.quiet_of_same
abbrev jm:=@Go.Value
end
section
open Go.RowKit
open Hx (Rd Pk Vw)
def BZ(w:jk)(p:jm):Option Rd->Prop
 |none=>p=.pointer none
 |some r=>∃b o,p=Pt b o/\w.cell? (Ad b o)=some (Im r.id)/\w.cell? (Ad b (o+1))=some (Im r.qR)/\
   w.cell? (Ad b (o+2))=some (Im r.tZ)/\w.cell? (Ad b (o+3))=some (Im r.out)/\w.cell? (Ad b (o+4))=some (.bool r.wo)
def BX(w:jk)(p:jm):Option Pk->Prop
 |none=>p=.pointer none
 |some r=>∃b o,p=Pt b o/\w.cell? (Ad b o)=some (Im r.seq)/\w.cell? (Ad b (o+1))=some (Im r.size)/\
   w.cell? (Ad b (o+2))=some (Im r.on)
def Gs(B:Nat)(w:jk)(a:Option Addr)(rs:List Rd):Prop:=
 ∀i r,rs[i]? =some r->∃b o,a=some (Ad b o)/\b<B/\BZ w (Pt b (o+i * 5)) (some r)
def JJ(B:Nat)(w:jk)(a:Option Addr)(rs:List Pk):Prop:=
 ∀i r,rs[i]? =some r->∃b o,a=some (Ad b o)/\b<B/\BX w (Pt b (o+i * 3)) (some r)
structure Ci(B:Nat)(w:jk)(M:Nat)(v:Vw):Prop where
 jU:∃a cap,w.cell? (Ad M 0)=some (.slice a v.jU.length cap)/\Gs B w a v.jU
 kK:∃a cap,w.cell? (Ad M 1)=some (.slice a v.kK.length cap)/\JJ B w a v.kK
 jW:∃a cap,w.cell? (Ad M 2)=some (.slice a v.jW.length cap)/\JJ B w a v.jW
 KN:v.jU.length<=8
 KL:v.kK.length<=16
 KJ:v.jW.length<=16
 ids:∀r∈v.jU,0<=r.id/\r.id<8
 yX:v.yO
theorem asy(M:Nat)(i:Int)(b c a cap:Nat)(w:jk)(d:0<=i)(g:i<a)
 (j:w.cell? (Ad M 0)=some (.slice (some (Ad b c)) a cap)):
 Calls prog 97 #[Pt M 0,Im i] w λe f=>e=.returned (Pt b (c+i.toNat * 5))/\f=w:=by
 have h:decide (i<0)=false:=by simpa using d
 go_enter func97,ntmps97;go_wp2;go_ret;exact⟨rfl,rfl⟩
theorem agE(M:Nat)(i:Int)(a:Option Addr)(b cap:Nat)(w:jk)(h:i<0\/(b:Int)<=i)
 (f:w.cell? (Ad M 0)=some (.slice a b cap)):
 Calls prog 97 #[Pt M 0,Im i] w λe d=>e=.returned (.pointer none)/\d=w:=by
 rcases h with h|h
 .have c:decide (i<0)=true:=by simpa using h
  go_enter func97,ntmps97;go_wp2;go_ret;exact⟨rfl,rfl⟩
 .have c:decide (i<0)=false:=by simp;omega
  go_enter func97,ntmps97;go_wp2;go_ret;exact⟨rfl,rfl⟩
theorem SI(B:Nat)(M:Nat)(i:Int)(v:Vw)(w:jk)(l:Ci B w M v):
 Calls prog 97 #[Pt M 0,Im i] w λe f=>(∃p,e=.returned p/\BZ w p (v.mG i))/\f=w:=by
 obtain⟨a,c,g,k⟩:=l.jU;by_cases d:i<0
 .refine(agE M i a _ c w (jf d) g).mono ?_;rintro e f ⟨rfl,rfl⟩;exact⟨⟨_,rfl,by simp[Hx.Vw.mG,d,BZ]⟩,rfl⟩
 .by_cases h:i.toNat<v.jU.length
  .obtain⟨b,o,rfl,n,j⟩:=k i.toNat v.jU[i.toNat] (by simp[h]);refine(asy M i b o _ c w (by omega) (by omega) g).mono ?_;rintro e f ⟨rfl,rfl⟩;exact⟨⟨_,rfl,by simpa [Hx.Vw.mG,d,h]using j⟩,rfl⟩
  .refine(agE M i a _ c w (je (by omega)) g).mono ?_;rintro e f ⟨rfl,rfl⟩;exact⟨⟨_,rfl,by simp[Hx.Vw.mG,d,Nat.not_lt.1 h,BZ]⟩,rfl⟩
theorem alW(M:Nat)(i:Int)(b c a cap:Nat)(w:jk)(f:0<=i)(h:i<a)(d:i<16)
 (l:w.cell? (Ad M 1)=some (.slice (some (Ad b c)) a cap)):
 Calls prog 98 #[Pt M 0,Im i] w λe g=>e=.returned (Pt b (c+i.toNat * 3))/\g=w:=by
 have j:decide (i<0)=false:=by simpa using f
 have k:decide (16<=i)=false:=by simpa using d
 go_enter func98,ntmps98;go_wp2;go_ret;exact⟨rfl,rfl⟩
theorem acP(M:Nat)(i:Int)(a:Option Addr)(b cap:Nat)(w:jk)(h:i<0\/(b:Int)<=i)(c:i<16)
 (j:w.cell? (Ad M 1)=some (.slice a b cap)):
 Calls prog 98 #[Pt M 0,Im i] w λe f=>e=.returned (.pointer none)/\f=w:=by
 have g:decide (16<=i)=false:=by simpa using c
 rcases h with h|h
 .have d:decide (i<0)=true:=by simpa using h
  go_enter func98,ntmps98;go_wp2;go_ret;exact⟨rfl,rfl⟩
 .have d:decide (i<0)=false:=by simp;omega
  go_enter func98,ntmps98;go_wp2;go_ret;exact⟨rfl,rfl⟩
theorem ajG(M:Nat)(i:Int)(b c a cap:Nat)(d:Option Addr)(h f:Nat)(w:jk)(g:16<=i)(k:i-16<a)(p:i<=9223372036854775807)
 (o:w.cell? (Ad M 1)=some (.slice d h f))(q:w.cell? (Ad M 2)=some (.slice (some (Ad b c)) a cap)):
 Calls prog 98 #[Pt M 0,Im i] w λe j=>e=.returned (Pt b (c+(i-16).toNat * 3))/\j=w:=by
 have l:decide (i-16<0)=false:=by simp;omega
 have n:decide (16<=i)=true:=by simpa using g
 go_enter func98,ntmps98;go_wp2;go_ret;exact⟨rfl,rfl⟩
theorem ajE(M:Nat)(i:Int)(a:Option Addr)(b cap:Nat)(c:Option Addr)(g d:Nat)(w:jk)(f:16<=i)(h:(b:Int)<=i-16)(o:i<=9223372036854775807)
 (n:w.cell? (Ad M 1)=some (.slice c g d))(p:w.cell? (Ad M 2)=some (.slice a b cap)):
 Calls prog 98 #[Pt M 0,Im i] w λe j=>e=.returned (.pointer none)/\j=w:=by
 have k:decide (i-16<0)=false:=by simp;omega
 have l:decide (16<=i)=true:=by simpa using f
 go_enter func98,ntmps98;go_wp2;go_ret;exact⟨rfl,rfl⟩
theorem Sn(B:Nat)(M:Nat)(i:Int)(v:Vw)(w:jk)(s:Ci B w M v)(r:i<=9223372036854775807):
 Calls prog 98 #[Pt M 0,Im i] w λe h=>(∃p,e=.returned p/\BX w p (v.nJ i))/\h=w:=by
 obtain⟨a,d,j,x⟩:=s.kK;obtain⟨t,f,k,q⟩:=s.jW;by_cases c:16<=i
 .by_cases g:(i-16).toNat<v.jW.length
  .obtain⟨b,o,rfl,u,n⟩:=q (i-16).toNat v.jW[(i-16).toNat] (by simp[g]);refine(ajG M i b o _ f a _ d w c (by omega) r j k).mono ?_;rintro e h ⟨rfl,rfl⟩;exact⟨⟨_,rfl,by simpa [Hx.Vw.nJ,c,g]using n⟩,rfl⟩
  .refine(ajE M i t _ f a _ d w c (by omega) r j k).mono ?_;rintro e h ⟨rfl,rfl⟩;exact⟨⟨_,rfl,by simp only[Hx.Vw.nJ,jh c,bV (Nat.not_lt.1 g)];rfl⟩,rfl⟩
 .by_cases l:i<0
  .refine(acP M i a _ d w (jf l) (by omega) j).mono ?_;rintro e h ⟨rfl,rfl⟩;exact⟨⟨_,rfl,by simp[Hx.Vw.nJ,c,l,BX]⟩,rfl⟩
  .by_cases g:i.toNat<v.kK.length
   .obtain⟨b,o,rfl,u,n⟩:=x i.toNat v.kK[i.toNat] (by simp[g]);refine(alW M i b o _ d w (by omega) (by omega) (by omega) j).mono ?_;rintro e h ⟨rfl,rfl⟩;exact⟨⟨_,rfl,by simpa [Hx.Vw.nJ,c,l,g]using n⟩,rfl⟩
   .refine(acP M i a _ d w (je (by omega)) (by omega) j).mono ?_;rintro e h ⟨rfl,rfl⟩;exact⟨⟨_,rfl,by simp[Hx.Vw.nJ,c,l,Nat.not_lt.1 g,BX]⟩,rfl⟩
theorem aa5(B:Nat)(M:Nat)(l:Int)(v:Vw)(w:jk)(b:Ci B w M v):
 Calls prog 95 #[Pt M 0,Im l] w λe j=>e=.returned (Im (v.all l))/\j=w:=by
 obtain⟨k,p,s,-⟩:=b.jU;obtain⟨n,q,t,-⟩:=b.kK;obtain⟨o,r,u,-⟩:=b.jW;have x:=b.KN;have y:=b.KL;have z:=b.KJ;clear b;generalize c:v.jU.length=g at *;generalize d:v.kK.length=h at *;generalize f:v.jW.length=i at *;have a:v.all l=if l=0 then Hx.pK g else if l=1 then Hx.pK h else wrap64 (Hx.pK i * 65536):=by simp[Hx.Vw.all,c,d,f]
 rw[a];clear a c d f;go_enter func95,ntmps95;go_wp2;all_goals (go_ret;exact⟨zI (by simp_all [Hx.pK]),rfl⟩)
theorem VK(x i:Int)(w:jk)(b:0<=i)(c:i<8):
 Calls prog 94 #[Im x,Im i] w λe a=>e=.returned (.bool (Hx.xO x i))/\a=w:=by
 go_enter func94,ntmps94;go_wp2;go_ret;exact⟨rfl,rfl⟩
theorem aqg(o:Int)(p:jm)(r:Option Rd)(w:jk)(a:BZ w p r):
 Calls prog 155 #[.int .u8 o,p] w λe c=>e=.returned (Im (Hx.uP o r))/\c=w:=by
 cases r with
 |none=>
  obtain rfl:=a;go_enter func155,ntmps155;go_wp2;go_ret;exact⟨rfl,rfl⟩
 |some r=>
  obtain⟨b,d,rfl,f,g,h,i,j⟩:=a;go_enter func155,ntmps155;go_wp2_with (go_at_call 152;refine(LU _ _).mono ?_;rintro e c ⟨rfl,rfl⟩);all_goals (go_ret;exact⟨zI (by simp_all [Hx.uP]),rfl⟩)
theorem aqf(o:Int)(p:jm)(r:Option Pk)(w:jk)(a:BX w p r):
 Calls prog 156 #[.int .u8 o,p] w λe d=>e=.returned (Im (Hx.yT o r))/\d=w:=by
 cases r with
 |none=>
  obtain rfl:=a;go_enter func156,ntmps156;go_wp2;go_ret;exact⟨rfl,rfl⟩
 |some r=>
  obtain⟨b,c,rfl,f,g,h⟩:=a;go_enter func156,ntmps156;go_wp2;all_goals (go_ret;exact⟨zI (by simp_all [Hx.yT]),rfl⟩)
theorem anN(p q:jm)(g:Option Pk)(c:Option Rd)(w:jk)(h:BX w p g)(d:BZ w q c)(a:∀r,c=some r->0<=r.id/\r.id<8):
 Calls prog 157 #[p,q] w λe u=>e=.returned (.bool (Hx.Oo g c))/\∃n,u=w.drewN n:=by
 cases g with
 |none=>
  obtain rfl:=h;cases c with
  |none=>
   obtain rfl:=d;go_enter func157,ntmps157;go_wp2_with fail;go_quiet (fail);go_wp2;go_ret;exact⟨rfl,_,rfl⟩
  |some r=>
   obtain⟨b,f,rfl,j,l,o,y,z⟩:=d;go_enter func157,ntmps157;go_wp2_with fail;go_quiet (fail);go_wp2;go_ret;exact⟨rfl,_,rfl⟩
 |some k=>
  obtain⟨b,f,rfl,j,l,o⟩:=h;cases c with
  |none=>
   obtain rfl:=d;go_enter func157,ntmps157;go_wp2_with fail;go_quiet (fail);go_wp2;go_ret;exact⟨rfl,_,rfl⟩
  |some r=>
   obtain⟨s,t⟩:=a r rfl;obtain⟨x,i,rfl,A,D,E,F,G⟩:=d;clear a;go_enter func157,ntmps157;go_wp2_with fail;go_quiet ((go_at_call 94;exact dN (VK _ _ _ s t)));go_wp2;go_ret;exact⟨rfl,_,rfl⟩
theorem apa(x:Int)(d:0<=x)(g:x<18446744073709551616)(w:jk)(f:wO w):
 Calls prog 154 #[.int .u64 x] w λe b=>e=.returned (Im (Hx.lowest x))/\b=w:=by
 by_cases a:x=0
 .subst a;go_enter func154,ntmps154;go_wp2;go_ret;exact⟨rfl,rfl⟩
 .have h:(x==0)=false:=by simpa using a
  have c:Hid (¬x=0):=a;clear a;go_enter func154,ntmps154;go_wp2_with (go_at_call 96;refine(aif _ d g _ f).mono ?_;rintro e b ⟨rfl,rfl⟩);go_ret;exact⟨zI (by have:=c.out;simp[Hx.lowest,this]),rfl⟩
theorem asx{B:Nat}{w:jk}{M:Nat}{v:Vw}(a:Ci B w M v){i:Int}{r:Rd}(h:v.mG i=some r):0<=r.id/\r.id<8:=by
 refine a.ids r ?_;simp only[Hx.Vw.mG]at h;split at h
 .cases h
 .exact bT h
theorem aqT(B M:Nat)(o a b:Int)(v:Vw)(w:jk)(d:Ci B w M v)(j:wO w)(t:a<=9223372036854775807):
 Calls prog 100 #[Pt M 0,.int .u8 o,Im a,Im b] w λe c=>e=.returned (Im (Hx.outcome v o a b))/\∃n,c=w.drewN n:=by
 have g:Hid (∀i r,v.mG i=some r->0<=r.id/\r.id<8):=λi r h=>asx d h;have s:=Hx.FT a;have f:Hid (0<=Hx.nY a/\Hx.nY a<18446744073709551616):=s;clear s;go_enter func100,ntmps100;go_wp2_with (first
  |(go_at_call 152;refine(LU _ _).mono ?_;rintro e c ⟨rfl,rfl⟩)
  |(go_at_call 153;refine(aqD _ _).mono ?_;rintro e c ⟨rfl,rfl⟩)
  |(go_at_call 154;refine(apa _ f.out.1 f.out.2 _ j).mono ?_;rintro e c ⟨rfl,rfl⟩)
  |(go_at_call 97;refine(SI B M _ v _ d).mono ?_;rintro e c ⟨⟨p,rfl,k⟩,rfl⟩)
  |(go_at_call 98;refine(Sn B M _ v _ d t).mono ?_;rintro e c ⟨⟨q,rfl,l⟩,rfl⟩)
  |(go_at_call 155;refine(aqg _ _ _ _ k).mono ?_;rintro e c ⟨rfl,rfl⟩)
  |(go_at_call 156;refine(aqf _ _ _ _ l).mono ?_;rintro e c ⟨rfl,rfl⟩)
  |(go_at_call 157;refine(anN _ _ _ _ _ l k (g.out _)).mono ?_;rintro e u ⟨rfl,n,rfl⟩)
  |(go_at_call 158;refine(afN _ _ _ _).mono ?_;rintro e c ⟨rfl,rfl⟩))
 all_goals (go_ret;refine⟨zI ?_,?_⟩)
 all_goals (first|exact⟨0,rfl⟩|exact⟨_,rfl⟩|(clear d j g f;simp_all [Hx.outcome,Hx.nY]))
end
section
abbrev ah:=@Go.World.grownBy_alloc
abbrev bC:=@Go.RowKit.Below.heap_setCell
abbrev bG:=@Go.World.cell?_setCell_other
abbrev bQ:=@Go.World.cell?_of_block
abbrev dB:=@Go.World.cell?_setCell_same
abbrev dZ:=@Go.World.frozen?_of_block
end
section
open Go.RowKit
open Hx (Rd Pk Vw St Mc jK)
section
theorem BZ.keep{B:Nat}{w w':jk}{b o:Nat}{r:Rd}(a:b<B)(c:∀x:Addr,x.block<B->w'.cell? x=w.cell? x)
 (h:BZ w (Pt b o) (some r)):BZ w' (Pt b o) (some r):=by
 obtain⟨d,l,e,f,g,i,j,k⟩:=h;obtain⟨rfl,rfl⟩:b=d/\o=l:=by simpa using e
 exact⟨b,o,rfl,by rw[c _ a];exact f,by rw[c _ a];exact g,by rw[c _ a];exact i,by rw[c _ a];exact j,by rw[c _ a];exact k⟩
theorem BX.keep{B:Nat}{w w':jk}{b o:Nat}{r:Pk}(a:b<B)(c:∀x:Addr,x.block<B->w'.cell? x=w.cell? x)
 (h:BX w (Pt b o) (some r)):BX w' (Pt b o) (some r):=by
 obtain⟨d,j,e,f,g,i⟩:=h;obtain⟨rfl,rfl⟩:b=d/\o=j:=by simpa using e
 exact⟨b,o,rfl,by rw[c _ a];exact f,by rw[c _ a];exact g,by rw[c _ a];exact i⟩
theorem Ci.keep{B:Nat}{w w':jk}{M:Nat}{v:Vw}(h:Ci B w M v)(p:∀x:Addr,x.block<B->w'.cell? x=w.cell? x)
 (n:∀k,k<3->w'.cell? (Ad M k)=w.cell? (Ad M k)):Ci B w' M v:=by
 refine⟨?_,?_,?_,h.KN,h.KL,h.KJ,h.ids,h.yX⟩
 .obtain⟨a,c,f,g⟩:=h.jU;refine⟨a,c,by rw[n 0 (by omega)];exact f,λi r l=>?_⟩;obtain⟨b,o,e,d,j⟩:=g i r l;exact⟨b,o,e,d,j.keep d p⟩
 .obtain⟨a,c,f,g⟩:=h.kK;refine⟨a,c,by rw[n 1 (by omega)];exact f,λi r l=>?_⟩;obtain⟨b,o,e,d,j⟩:=g i r l;exact⟨b,o,e,d,j.keep d p⟩
 .obtain⟨a,c,f,g⟩:=h.jW;refine⟨a,c,by rw[n 2 (by omega)];exact f,λi r l=>?_⟩;obtain⟨b,o,e,d,j⟩:=g i r l;exact⟨b,o,e,d,j.keep d p⟩
def nT(l:List (Int×Int)):List jm:=l.flatMap λp=>[Im p.1,Im p.2]
structure kP(B C:Nat)(w:jk)(M SB:Nat)(v:Vw)(m:Mc):Prop where
 view:Ci B w M v
 bM:B<=M
 bS:B<=SB
 cM:M<C
 cS:SB<C
 ne:¬M=SB
 size:C<=w.heap.size
 jD:w.cell? (Ad M 3)=some (.slice (some (Ad SB 0)) m.jD.length m.jD.length)
 slot:∀k,k<m.jD.length->w.cell? (Ad SB k)=some (Im (m.jD.getD k 0))
 Dj:∀k,k<m.jD.length->w.frozen? (Ad SB k)=false
 left:∀k,k<8->w.cell? (Ad M (4+k))=some (.int .u64 (m.left.getD k 0))
 KA:∀k,k<8->w.frozen? (Ad M (4+k))=false
 Ru:m.left.length=8
 jP:∃va,w.cell? (Ad M 12)=some va/\w.ownsRow C 76 2 va m.jP.length (nT m.jP)
 JO:w.frozen? (Ad M 12)=false
 D6:∀k,jK (m.jD.getD k 0)
 IY:∀k,0<=m.left.getD k 0/\m.left.getD k 0<18446744073709551616
 LP:wO w
 one:1<B
variable {B C:Nat}{w:jk}{M SB:Nat}{v:Vw}{m:Mc}
theorem kP.grow(h:kP B C w M SB v m){w':jk}(e:w.grownBy w' none):kP B C w' M SB v m:=by
 have q:=h.size;have n:=h.bM;have o:=h.cM;have p:=h.cS;have f:∀k,k<w.heap.size->w'.heap[k]? =w.heap[k]? :=λk a=>e.block k a (by simp);have b:∀x:Addr,x.block<w.heap.size->w'.cell? x=w.cell? x:=λx c=>bQ (f _ c);have d:∀x:Addr,x.block<w.heap.size->w'.frozen? x=w.frozen? x:=λx c=>dZ (f _ c);refine⟨h.view.keep (λx c=>b x (by omega)) (λk _=>b _ (by show M<_;omega)),h.bM,h.bS,h.cM,h.cS,h.ne,dH h.size e.size,?_,?_,?_,?_,?_,h.Ru,?_,?_,h.D6,h.IY,?_,h.one⟩
 .rw[b _ (by show M<_;omega)];exact h.jD
 .intro k a;rw[b _ (by show SB<_;omega)];exact h.slot k a
 .intro k a;rw[d _ (by show SB<_;omega)];exact h.Dj k a
 .intro k a;rw[b _ (by show M<_;omega)];exact h.left k a
 .intro k a;rw[d _ (by show M<_;omega)];exact h.KA k a
 .obtain⟨g,i,l⟩:=h.jP;exact⟨g,by rw[b _ (by show M<_;omega)];exact i,l.kept e (by cases g.ownBlock<;>simp)⟩
 .rw[d _ (by show M<_;omega)];exact h.JO
 .intro j hj;have:=h.one;rw[b _ (by show 1<_;omega)];exact h.LP j hj
theorem kP.alloc(h:kP B C w M SB v m)(o:Obj):kP B C (w.alloc o) M SB v m:=h.grow (ah w o none)
theorem kP.drewN(h:kP B C w M SB v m)(n:Nat):kP B C (w.drewN n) M SB v m:=
 h.grow ⟨rfl,rfl,rfl,aj _,λ_ _ _=>rfl⟩
theorem acY(l:List Int)(k j:Nat)(x:Int)(a:k<l.length):(l.set k x).getD j 0=if j=k then x else l.getD j 0:=by
 simp only[aU,List.getElem?_set];by_cases h:k=j
 .subst h;simp[a]
 .simp[h,Ne.symm h]
theorem vX(w:jk)(a:Addr)(u:jm):w.grownBy (w.setCell a u) (some a.block):=
 ⟨rfl,rfl,rfl,by simp,λk _ b=>bC _ _ _ _ (λe=>b (by rw[e]))⟩
theorem kP.put(h:kP B C w M SB v m){i:Nat}{x:Int}(hi:i<m.jD.length)(r:jK x):
 kP B C (w.setCell (Ad SB i) (Im x)) M SB v (m.put i x):=by
 have b:=h.ne;have s:=h.bM;have t:=h.bS;have u:=h.cS;have z:=h.size;have d:∀y:Addr,¬y.block=SB->(w.setCell (Ad SB i) (Im x)).cell? y=w.cell? y:=λy l=>bG _ _ _ _ (λe=>l (by rw[<-e]));have a:(m.put i x).jD.length=m.jD.length:=by simp[Hx.Mc.put]
 have c:∀j,(m.put i x).jD.getD j 0=if j=i then x else m.jD.getD j 0:=λj=>by
  have:=acY m.jD i j x hi;simpa [Hx.Mc.put]using this
 refine⟨h.view.keep (λy l=>d y (by omega)) (λk _=>d _ b),h.bM,h.bS,h.cM,h.cS,h.ne,by simpa using h.size,?_,?_,?_,?_,?_,h.Ru,?_,?_,?_,h.IY,?_,h.one⟩
 .rw[d _ b,a];exact h.jD
 .intro k hk;rw[a]at hk;rw[c];by_cases e:k=i
  .subst e;rw[jh rfl];exact dB _ _ _ (h.slot k hk)
  .rw[jg e,bG _ _ _ _ (by intro o;cases o;exact e rfl)];exact h.slot k hk
 .intro k hk;rw[a]at hk;simpa using h.Dj k hk
 .intro k hk;rw[d _ b];exact h.left k hk
 .intro k hk;simpa using h.KA k hk
 .obtain⟨n,p,f⟩:=h.jP;refine⟨n,by rw[d _ b];exact p,f.kept (vX w (Ad SB i) _) ?_⟩;cases q:n.ownBlock with
  |none=>exact jf rfl
  |some g=>
   right;have:=(f.lt g q).1;simp;omega
 .simpa using h.JO
 .intro k;rw[c];split
  .exact r
  .exact h.D6 k
 .intro j hj;have:=h.one;rw[d _ (by show¬1=SB;omega)];exact h.LP j hj
theorem kP.lY(h:kP B C w M SB v m){i:Nat}{x:Int}(hi:i<8)(t:0<=x/\x<18446744073709551616):
 kP B C (w.setCell (Ad M (4+i)) (.int .u64 x)) M SB v (m.lY i x):=by
 have d:=h.ne;have u:=h.bM;have z:=h.bS;have D:=h.cS;have E:=h.size;have s:=h.Ru;have f:∀y:Addr,¬y.block=M->(w.setCell (Ad M (4+i)) (.int .u64 x)).cell? y=w.cell? y:=λy n=>bG _ _ _ _ (λe=>n (by rw[<-e]));have c:∀k,¬k=4+i->(w.setCell (Ad M (4+i)) (.int .u64 x)).cell? (Ad M k)=w.cell? (Ad M k):=λk a=>bG _ _ _ _ (by intro p;cases p;exact a rfl);have b:∀j,(m.lY i x).left.getD j 0=if j=i then x else m.left.getD j 0:=λj=>by
  have:=acY m.left i j x (by omega);simpa [Hx.Mc.lY]using this
 refine⟨h.view.keep (λy n=>f y (by omega)) (λk a=>c k (by omega)),h.bM,h.bS,h.cM,h.cS,h.ne,by simpa using h.size,?_,?_,?_,?_,?_,?_,?_,?_,h.D6,?_,?_,h.one⟩
 .rw[c 3 (by omega)];exact h.jD
 .intro k a;rw[f _ (λe=>d e.symm)];exact h.slot k a
 .intro k a;simpa using h.Dj k a
 .intro k a;rw[b];by_cases e:k=i
  .subst e;rw[jh rfl];exact dB _ _ _ (h.left k a)
  .rw[jg e,c _ (by omega)];exact h.left k a
 .intro k a;simpa using h.KA k a
 .simp[Hx.Mc.lY,s]
 .obtain⟨o,q,l⟩:=h.jP;have A:=h.cM;refine⟨o,by rw[c 12 (by omega)];exact q,l.kept (vX w (Ad M (4+i)) _) ?_⟩;cases r:o.ownBlock with
  |none=>exact jf rfl
  |some g=>
   right;have:=(l.lt g r).1;simp;omega
 .simpa using h.JO
 .intro k;rw[b];split
  .exact t
  .exact h.IY k
 .intro j hj;have:=h.one;rw[f _ (by show¬1=M;omega)];exact h.LP j hj
def zZ(w:jk)(b o:Nat)(s:St):Prop:=
 w.cell? (Ad b o)=some (.int .u8 s.op)/\w.cell? (Ad b (o+1))=some (Im s.a)/\w.cell? (Ad b (o+2))=some (Im s.b)/\
 w.cell? (Ad b (o+3))=some (Im s.c)/\w.cell? (Ad b (o+4))=some (Im s.d)/\w.cell? (Ad b (o+5))=some (Im s.depth)/\
 w.cell? (Ad b (o+6))=some (Im s.kD)
end
end
section
open Go
section
variable {P:Program}{ops:Array Oper}{md:Region.Mode}{C:jk->Prop}
theorem jA{p:Prop}(h:p):Go.RowKit.Hid p:=h
def zV(P:Program)(md:Region.Mode)(ops:Array Oper)(C:jk->Prop)(n:Nat)(L:Array Bool->Act->Prop):Nat->Array Bool->Act->Prop
 |0,done,a=>L done a
 |f+1,done,a=>Region.ready md ops done≠[]/\∀i∈Region.ready md ops done,i<n/\qOp P ops C i (zV P md ops C n L f (done.setIfInBounds i true)) a
theorem zV.any{n g:Nat}{L:Array Bool->Act->Prop}{Q:Exit->Act->jk->Prop}(c:∀done a w,C w->L done a->wpAny P md ops Q g done a w):
 ∀(f:Nat)(done:Array Bool)(a:Act)(w:jk),C w->zV P md ops C n L f done a->wpAny P md ops Q (f+g) done a w
 |0,done,a,w,hw,h=>by rw[gW];exact c _ _ _ hw h
 |f+1,done,a,w,hw,h=>by
  have e:f+1+g=(f+g)+1:=by omega
  rw[e];exact⟨λk=>jl k h.1,λi l=>wpOp_of_qOp hw (λd o b j=>zV.any c f _ d o b j) (h.2 i l).2⟩
theorem zV.first{n i:Nat}{r:Oper}{v:jm}{L:Array Bool->Act->Prop}(hi:ops[i]? =some r)(l:∀(j:Nat)(o:Oper) s b,ops[j]? =some o->o.op≠.select s b)
 (N:Region.sinkB md ops n=true)(J:Region.chainB md ops n=true)(K:n<ops.size)(x:i<n)
 (u:∀done a,L done a->∀j∈Region.ready md ops done,n<=j):
 ∀(f:Nat)(done:Array Bool)(a:Act),HeadInv md ops n done->
  (∀j q,ops[j]? =some q->j≠i->done.getD j true=false->(∀e∈q.after,Region.binds md e=true->e.on≠i)->r.apart ops q=true)->
  i∈Region.ready md ops done->YieldsIn P ops C r v a->
  zV P md ops C n L f (done.setIfInBounds i true) (a.put r.dst v)->zV P md ops C n L (f+1) done a:=by
 intro f;induction f with
 |zero=>
  intro done a inv _ hr hy H;have d:=(mem_ready.1 hr).1;refine⟨λh=>(by rw[h]at hr;cases hr),λj hj=>?_⟩;have hjn:j<n:=Nat.lt_of_not_le λh=>tail_waits N J K inv _ i rfl x d j h hj;refine⟨hjn,?_⟩;by_cases hji:j=i
  .subst hji;exact hy.qOp hi H
  .exact jl (u _ _ H j (ready_mono hj hji)) (by omega)
 |succ f ih=>
  intro done a inv hfree hr hy H;have d:=(mem_ready.1 hr).1;refine⟨λh=>(by rw[h]at hr;cases hr),λj hj=>?_⟩;have hjn:j<n:=Nat.lt_of_not_le λh=>tail_waits N J K inv _ i rfl x d j h hj;refine⟨hjn,?_⟩;by_cases hji:j=i
  .subst hji;exact hy.qOp hi H
  .obtain⟨g,q,p,t⟩:=mem_ready.1 hj;have z:∀e∈q.after,Region.binds md e=true->e.on≠i:=λe T S D=>by
    have G:=t e T S;rw[D,getD_both d]at G;cases G
   have R:=qOp_put p (hfree j q p hji g z) (λs b=>l i r s b hi) (λs b=>l j q s b p) hy (H.2 j (ready_mono hj hji)).2;have c:∀k A,ops[k]? =some A->k≠i->(done.setIfInBounds j true).getD k true=false->
    (∀e∈A.after,Region.binds md e=true->e.on≠i)->r.apart ops A=true:=λk A U E O F=>by
    refine hfree k A U E ?_ F;by_cases y:j=k
    .subst y;exact g
    .rw[getD_set_ne true y]at O;exact O
   refine qOp_mono (λQ I=>ih (done.setIfInBounds j true) Q (inv.set hj hjn) c (ready_mono hr (Ne.symm hji)) I.1 ?_) R;rw[Array.setIfInBounds_comm _ _ hji];exact I.2
theorem zV.lex{n g:Nat}{i:Act->Prop}(c:Region.noSelect ops=true)(u:Region.sinkB md ops n=true)(s:Region.chainB md ops n=true)(t:n<ops.size):
 ∀(l:List Oper)(k:Nat)(done:Array Bool)(a:Act),(∀j,j<l.length->l[j]? =ops[k+j]?)->k+l.length=n->HeadInv md ops n done->
 Region.lexHead md ops g l.length k done=true->wpQuiet P ops C i l a->
 zV P md ops C n (λb r=>Region.seqB md ops g n b=true/\i r) l.length done a
 |[],k,done,a,_,hk,_,hB,h=>by
  obtain rfl:k=n:=by simpa using hk
  exact⟨by simpa [Region.lexHead]using hB,h⟩
 |o::l,k,done,a,hl,hk,inv,hB,h=>by
  have f:ops[k]? =some o:=by simpa using (hl 0 (by simp)).symm
  simp only[aF,Region.lexHead,dD]at hB;obtain⟨⟨A,z⟩,p⟩:=hB;have d:k<n:=by simp only[aF]at hk;omega
  have e:k∈Region.ready md ops done:=by simpa using A
  have q:qOp P ops C k (wpQuiet P ops C i l) a:=by unfold qOp;simp only[f];exact h
  obtain⟨v,D,x⟩:=yieldsIn_of_qOp f q;exact zV.first f (Region.noSelect_spec c) u s t d (λb r y=>seqB_ready y.1) l.length done a inv (Region.free_spec f z) e D
   (zV.lex c u s t l (k+1) _ _ (λj E=>by have:=hl (j+1) (by simp;omega);simpa [fE,Nat.add_comm 1 j]using this) (by simp only[aF]at hk;omega) (inv.set e d) p x)
theorem aaj{F:Nat}{Q:Exit->Act->jk->Prop}{a:Act}{w:jk}{l:List Oper}(n:Nat)(A:P.follows .mixedOrders=true)(q:Region.lexTailB .any l.toArray n=true)(y:C w.drew)
 (h:wpQuiet P l.toArray C (λk=>∀i,C i->wpList P l.toArray Q (l.drop n) k i) (l.take n) a):(Code.region F l.toArray true).wp P Q a w:=by
 simp only[Region.lexTailB,dD,decide_eq_true_eq]at q;obtain⟨⟨⟨⟨e,x⟩,E⟩,z⟩,d⟩:=q;have D:n<l.length:=by simpa using x
 have b:(l.take n).length=n:=by simp;omega
 have c:(l.drop n).length=l.toArray.size-n:=by simp
 have f:HeadInv .any l.toArray n (Array.replicate l.toArray.size false):=
  ⟨by simp,λj G _ u=>(by rw[getD_replicate_false]at u;cases u),λt _ ht=>getD_in (by simpa using ht) (getD_replicate_false _ _)⟩
 have H:=zV.lex (P:=P) (C:=C) (md:=.any) (g:=l.toArray.size-n) e E z x (l.take n) 0 _ a (λj s=>by
  have o:j<n:=by rw[b]at s;exact s
  simp[o]) (by simpa using b) f (by rw[b];exact d) h
 refine wp_region_any A ?_;have:=zV.any (Q:=Q) (g:=l.toArray.size-n) (λdone k i p r=>by
  have:=wpAny_of_seq (P:=P) (md:=.any) (Q':=Q) (l.drop n) n done k i (λj=>by simp[List.getElem?_drop]) (by rw[c];exact r.1) (r.2 i p)
  rwa [c]at this) _ _ _ w.drew y H
 rw[b,show n+(l.toArray.size-n)=l.toArray.size by omega]at this;exact this
theorem nO{f:Nat}{Q:Exit->Act->jk->Prop}{a:Act}{w:jk}{l:List Oper}(n:Nat)(e:P.follows .mixedOrders=true)(d:Region.lexTailB .any l.toArray n=true)
 (h:wpQuiet P l.toArray (λb=>∃n,b=w.drewN n) (λc=>∀b,(∃n,b=w.drewN n)->wpList P l.toArray Q (l.drop n) c b) (l.take n) a):(Code.region f l.toArray true).wp P Q a w:=
 aaj n e d ⟨1,rfl⟩ h
theorem Dp{f:Nat}{Q:Exit->Act->jk->Prop}{a:Act}{w:jk}{k:Nat}{l:List Oper}(n:Nat)(e:P.follows .mixedOrders=true)(d:Region.lexTailB .any l.toArray n=true)
 (h:wpQuiet P l.toArray (λb=>∃n,b=w.drewN n) (λc=>∀b,(∃n,b=w.drewN n)->wpList P l.toArray Q (l.drop n) c b) (l.take n) a):(Code.region f l.toArray true).wp P Q a (w.drewN k):=
 aaj n e d ⟨k+1,rfl⟩ h
end
end
end Go.Proofs.YthllhabjfchgiaaGreatDoor
