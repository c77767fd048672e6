import Derived.WalkKit
import Derived.Lib.TrailingZeros
import Derived.Test.YthllhabjfchgiaaGreatDoorProg
import Derived.WalkSpells
import Derived.WalkLawsBesides
import Derived.Deep.QuietTactic
import Derived.BigQuiet
import Derived.Laws.Bits64b
import Derived.Below
import Derived.Deep.RegionHeld3
import Derived.Deep.AppendLies
import Derived.StillTail
import Derived.Deep.Quiet
set_option maxRecDepth 100000
set_option maxHeartbeats 8000000
set_option linter.unusedSimpArgs false
namespace Go.Proofs.YthllhabjfchgiaaGreatDoor
open _root_.Go.Proofs.Tryz
section
abbrev aj:=@Nat.le_refl
abbrev ak:=@List.setIfInBounds_toArray
abbrev au:=@List.set_cons_zero
abbrev ay:=@List.set_cons_succ
abbrev aA:=@List.length_append
abbrev aC:=@List.take_succ_cons
abbrev aF:=@List.length_cons
abbrev aG:=@List.drop_succ_cons
abbrev aH:=@Bool.false_eq_true
abbrev aI:=@List.mem_cons_of_mem
abbrev aO:=@List.take_zero
abbrev aQ:=@List.drop_zero
abbrev aT:=@List.getElem?_append_left
abbrev aU:=@List.getD_eq_getElem?_getD
abbrev aV:=@Int.le_refl
abbrev aW:=@List.mem_cons_self
abbrev aX:=@List.append_nil
abbrev bg:=@List.length_nil
abbrev bD:=@Nat.zero_le
abbrev bI:=@Int.eq_ofNat_of_zero_le
abbrev bJ:=@Option.some.injEq
abbrev bK:=@Int.toNat_natCast
abbrev bP:=@List.foldl_cons
abbrev bT:=@List.mem_of_getElem?
abbrev bU:=@List.getElem?_eq_getElem
abbrev bV:=@List.getElem?_eq_none
abbrev bW:=@List.getElem?_append_right
abbrev bY:=@List.append_assoc
abbrev bZ:=@List.cons_append
abbrev cO:=@List.mem_singleton
abbrev cZ:=@if_false
abbrev c8:=@List.flatMap_cons
abbrev dh:=@List.mem_cons
abbrev dw:=@List.getElem?_cons_zero
abbrev dA:=@List.drop_eq_getElem_cons
abbrev dD:=@Bool.and_eq_true
abbrev dF:=@List.map_append
abbrev dG:=@Nat.lt_or_ge
abbrev dH:=@Nat.le_trans
abbrev dJ:=@List.flatMap_nil
abbrev dL:=@List.map_cons
abbrev dM:=@if_true
abbrev dO:=@decide_eq_false
abbrev dP:=@List.nil_append
abbrev dQ:=@List.getElem?_set_ne
abbrev dR:=@decide_eq_true
abbrev dS:=@List.mem_of_mem_take
abbrev dU:=@List.not_mem_nil
abbrev dV:=@List.foldl_append
abbrev dW:=@List.eq_nil_of_length_eq_zero
abbrev dY:=@List.getElem?_set_self
abbrev eu:=@List.getElem?_concat_length
abbrev eF:=@List.foldl_nil
abbrev eG:=@List.length_singleton
abbrev eH:=@Array.getElem?_push
abbrev eP:=@List.mem_append_left
abbrev eU:=@List.take_of_length_le
abbrev eX:=@Array.length_toList
abbrev eY:=@Array.size_push
abbrev fA:=@List.length_drop
abbrev fB:=@Int.mul_le_mul_of_nonneg_left
abbrev fC:=@List.singleton_append
abbrev fD:=@Int.le_trans
abbrev fE:=@Nat.add_assoc
abbrev fF:=@List.find?_cons
abbrev fG:=@List.getElem_mem
abbrev fH:=@List.drop_of_length_le
abbrev fJ:=@List.reverse_cons
abbrev fO:=@Array.eq_empty_of_size_eq_zero
abbrev fU:=@List.take_add_one
abbrev fV:=@List.getElem?_map
abbrev fZ:=@Option.some.inj
abbrev gq:=@List.reverse_append
abbrev gu:=@List.flatMap_append
abbrev gG:=@Nat.max_eq_right
abbrev gI:=@List.length_take
abbrev gJ:=@Nat.eq_zero_or_pos
abbrev gK:=@Bool.false_and
abbrev gQ:=@Nat.mul_le_mul_right
abbrev gU:=@List.mem_of_mem_drop
abbrev gV:=@Nat.max_eq_left
abbrev gW:=@Nat.zero_add
abbrev gX:=@Nat.le_total
abbrev gY:=@List.sum_cons
abbrev gZ:=@Bool.false_or
abbrev ig:=@List.reverse_nil
abbrev iq:=@ByteArray.size_extract
abbrev iw:=@List.set_append_right
abbrev iy:=@List.cons.injEq
abbrev iC:=@Int.natCast_add
abbrev iD:=@Bool.true_or
abbrev iE:=@Bool.or_true
abbrev iF:=@Int.toNat_of_nonneg
abbrev iG:=@List.getElem?_take_of_lt
abbrev iH:=@Option.map_some
abbrev iI:=@List.length_set
abbrev iJ:=@Int.natCast_mul
abbrev iK:=@List.take_left
abbrev iL:=@Bool.and_false
abbrev iM:=@List.map_nil
abbrev iO:=@Nat.mod_eq_of_lt
abbrev iP:=@Int.add_assoc
abbrev iQ:=@Bool.or_false
abbrev iR:=@List.getD_cons_zero
abbrev iT:=@List.getD_cons_succ
abbrev iU:=@Bool.or_eq_true
abbrev iV:=@Nat.pow_succ
abbrev iW:=@List.getElem?_take
abbrev iY:=@List.getElem?_cons_succ
abbrev iZ:=@ByteArray.ext
abbrev jc:=@Bool.not_true
abbrev jd:=@And.intro
abbrev je:=@Or.inr
abbrev jf:=@Or.inl
abbrev jg:=@if_neg
abbrev jh:=@if_pos
abbrev ji:=@ByteArray
abbrev jl:=@absurd
abbrev Im(n:Int):Value:=.int .i64 n
abbrev Pt(b o:Nat):Value:=.pointer (some ⟨b,o,none⟩)
abbrev Ad(b o:Nat):Addr:=⟨b,o,none⟩
abbrev Nl:Value:=.slice none 0 0
end
namespace Hx
open Go.RowKit
structure Rd where
 id:Int
 WE:Int
 Tq:Int
 out:Int
 U8:Bool
structure Pk where
 seq:Int
 size:Int
 on:Int
structure Vw where
 pW:List Rd
 qK:List Pk
 qJ:List Pk
def jJ(x:Int):Prop:=-9223372036854775808<=x/\x<=9223372036854775807
structure Vw.Dt(v:Vw):Prop where
 pW:∀r∈v.pW,jJ r.id/\jJ r.WE/\jJ r.Tq/\jJ r.out
 qK:∀p∈v.qK,jJ p.seq/\jJ p.size/\jJ p.on
 qJ:∀p∈v.qJ,jJ p.seq/\jJ p.size/\jJ p.on
def kW(b:Bool):Int:=if b then 1 else 0
def quot(a b:Int):Int:=if b=0 then 0 else wrap64 (a.tdiv b)
def rest(a b:Int):Int:=if b=0 then 0 else a.tmod b
def two(o a b:Int):Int:=
 if o=10 then wrap64 (a+b)else if o=11 then wrap64 (a-b)else if o=12 then wrap64 (a * b)
 else if o=13 then quot a b else if o=14 then rest a b
 else if o=15 then kW (decide (a<b))else if o=16 then kW (decide (a<=b))
 else if o=17 then kW (a==b)else if o=18 then kW (a !=b)
 else if o=19 then bits .and .i64 a b else if o=20 then bits .or .i64 a b else 0
def aoW(x:Int):Int:=IntKind.u64.wrap (bits .and .u64 (x/2) 6148914691236517205+bits .and .u64 x 6148914691236517205)
def aoX(x:Int):Int:=IntKind.u64.wrap (bits .and .u64 (x/4) 3689348814741910323+bits .and .u64 x 3689348814741910323)
def aoY(x:Int):Int:=bits .and .u64 (IntKind.u64.wrap (x/16+x)) 1085102592571150095
def VE(x:Int)(n:Int):Int:=IntKind.u64.wrap (x+x/n)
def VD(x:Int):Int:=bits .and .i64 (wrap64 (VE (VE (VE (aoY (aoX (aoW x))) 256) 65536) 4294967296)) 127
def pY(x:Int):Int:=IntKind.u64.wrap x
def tz(x:Int):Int:=Lib.ctz 64 x.toNat
def lowest(x:Int):Int:=if x=0 then -1 else tz x
def Pg(x i:Int):Bool:=bits .and .i64 (x/2^i.toNat) 1==1
def Vw.sN(v:Vw)(i:Int):Option Rd:=if i<0 then none else v.pW[i.toNat]?
def Vw.uM(v:Vw)(i:Int):Option Pk:=
 if 16<=i then v.qJ[(i-16).toNat]?else if i<0 then none else v.qK[i.toNat]?
def tN(n:Nat):Int:=wrap64 (wrap64 (2^n)-1)
def Vw.all(v:Vw)(l:Int):Int:=
 if l=0 then tN v.pW.length else if l=1 then tN v.qK.length else wrap64 (tN v.qJ.length * 65536)
def JU(o:Int):Option Rd->Int
 |none=>0
 |some r=>if o=28 then r.id else if o=29 then r.WE else if o=30 then r.Tq else if o=31 then r.out else kW r.U8
def Nw(o:Int):Option Pk->Int
 |none=>0
 |some p=>if o=33 then p.seq else p.size
def UG:Option Pk->Option Rd->Bool
 |some p,some r=>Pg p.on r.id
 |_,_=>false
def outcome(v:Vw)(o a b:Int):Int:=
 if o=7 then a else if o=8 then wrap64 (-a)else if o=9 then kW (a==0)
 else if o=23 then VD (pY a)else if o=24 then lowest (pY a)else if o=27 then kW (a== -1)
 else if o=28\/o=29\/o=30\/o=31\/o=32 then JU o (v.sN a)
 else if o=33\/o=34 then Nw o (v.uM a)
 else if o=35 then kW (UG (v.uM a) (v.sN b))
 else two o a b
structure St where
 op:Int
 a:Int
 b:Int
 c:Int
 d:Int
 depth:Int
 jY:Int
structure Mc where
 jD:List Int
 left:List Int
 jO:List (Int×Int)
def Mc.get(m:Mc)(i:Int):Int:=m.jD.getD i.toNat 0
def Mc.put(m:Mc)(i x:Int):Mc:={m with jD:=m.jD.set i.toNat x}
def Mc.ni(m:Mc)(i:Int):Int:=m.left.getD i.toNat 0
def Mc.lX(m:Mc)(i x:Int):Mc:={m with left:=m.left.set i.toNat x}
def choose(s:St)(better:Bool)(m:Mc):Mc:=
 if better||m.get s.a== -1 then (m.put s.a (m.get s.c)).put s.b (m.get s.d)else m
def vP(x y:Int):Int:=bits .or .i64 x (wrap64 (2^(pY y%64).toNat))
def work(v:Vw)(s:St)(m:Mc):Mc:=
 if s.op=6 then m.put s.a s.b
 else if s.op=21 then m.put s.a (v.all s.b)
 else if s.op=22 then m.put s.a (vP (m.get s.a) (m.get s.b))
 else if s.op=25 then choose s (decide (m.get s.d<m.get s.b)) m
 else if s.op=26 then choose s (decide (m.get s.b<m.get s.d)) m
 else m.put s.a (outcome v s.op (m.get s.b) (m.get s.c))
def rP(v:Vw)(s:St)(m:Mc):Mc:=m.lX s.depth (pY (bits .and .i64 (m.get s.c) (v.all s.a)))
def kS(s:St)(loop:Int)(m:Mc):Mc×Int:=
 if m.ni s.depth=0 then (m,s.jY)
 else ((m.put s.b (tz (m.ni s.depth))).lX s.depth (bits .and .u64 (m.ni s.depth) (IntKind.u64.wrap (m.ni s.depth-1))),loop+1)
def St.slot(n:Nat)(x:Int):Prop:=0<=x/\x<n
def St.Rw(n:Nat)(s:St):Prop:=
 jJ s.b/\slot n s.a/\(s.op=6\/s.op=21\/(slot n s.b/\(s.op=22\/(slot n s.c/\((s.op=25\/s.op=26)->slot n s.d)))))
theorem Dv(x:Int):jJ (wrap64 x):=by unfold wrap64 jJ;omega
theorem He(b:Bool):jJ (kW b):=by unfold kW jJ;split<;>omega
theorem Js(o:BinOp)(x y:Int):jJ (bits o .i64 x y):=⟨bits_lo_i64 _ _ _,bits_hi_i64 _ _ _⟩
theorem al6(a b:Int)(h:jJ a):jJ (a.tmod b):=by
 unfold jJ at *;by_cases ha:0<=a
 .have h1:=Int.tmod_nonneg b ha;have h2:a.tmod b<=a:=by
   obtain⟨n,rfl⟩:=bI ha;have:((n:Int).tmod b).natAbs<=n:=by rw[Int.natAbs_tmod];exact Nat.mod_le _ _
   omega
  omega
 .have h1:(a.tmod b).natAbs<=a.natAbs:=by rw[Int.natAbs_tmod];exact Nat.mod_le _ _
  have h2:=Int.tmod_nonneg b (show 0<= -a by omega);rw[Int.neg_tmod]at h2;omega
theorem al4(a b:Int)(h:jJ a):jJ (rest a b):=by
 unfold rest;split
 .unfold jJ;omega
 .exact al6 a b h
theorem al3(a b:Int):jJ (quot a b):=by
 unfold quot;split
 .unfold jJ;omega
 .exact Dv _
theorem Dw:jJ 0:=by unfold jJ;omega
theorem UA(o a b:Int)(h:jJ a):jJ (two o a b):=by
 unfold two;repeat' split
 all_goals first|exact Dv _|exact He _|exact Js _ _ _|exact al3 _ _|exact al4 _ _ h|exact Dw
theorem agV(x:Int)(h0:0<=x)(h:x<18446744073709551616):0<=tz x/\tz x<=64:=by
 unfold tz;refine⟨by omega,?_⟩;by_cases hz:x.toNat=0
 .simp[Lib.ctz,hz]
 .have:=(Lib.lowest_bit 64 x.toNat hz (by omega)).2;omega
theorem al0(x:Int)(h0:0<=x)(h:x<18446744073709551616):jJ (lowest x):=by
 have:=agV x h0 h;unfold lowest jJ;split<;>omega
theorem Vw.adC{v:Vw}{i:Int}{r:Rd}(h:v.sN i=some r):r∈v.pW:=by
 simp only[Vw.sN]at h;split at h
 .cases h
 .exact bT h
theorem Vw.adB{v:Vw}{i:Int}{p:Pk}(h:v.uM i=some p):p∈v.qK\/p∈v.qJ:=by
 simp only[Vw.uM]at h;split at h
 .exact je (bT h)
 .split at h
  .cases h
  .exact jf (bT h)
theorem al2{v:Vw}(hv:v.Dt)(o i:Int):jJ (JU o (v.sN i)):=by
 cases h:v.sN i with
 |none=>exact Dw
 |some r=>
  obtain⟨h1,h2,h3,h4⟩:=hv.pW r (Vw.adC h);simp only[JU];repeat' split
  all_goals first|assumption|exact He _
theorem al1{v:Vw}(hv:v.Dt)(o i:Int):jJ (Nw o (v.uM i)):=by
 cases h:v.uM i with
 |none=>exact Dw
 |some p=>
  have h1:jJ p.seq/\jJ p.size:=by
   rcases Vw.adB h with h|h
   .exact⟨(hv.qK p h).1,(hv.qK p h).2.1⟩
   .exact⟨(hv.qJ p h).1,(hv.qJ p h).2.1⟩
  simp only[Nw];split
  .exact h1.1
  .exact h1.2
theorem EL(a:Int):0<=pY a/\pY a<18446744073709551616:=by
 unfold pY;rw[IntKind.wrap_u64];omega
theorem Uz{v:Vw}(hv:v.Dt)(o a b:Int)(h:jJ a):jJ (outcome v o a b):=by
 unfold outcome;repeat' split
 all_goals first|exact h|exact Dv _|exact He _|exact Js _ _ _|exact al0 _ (EL a).1 (EL a).2|exact al2 hv _ _|exact al1 hv _ _|exact UA _ _ _ h
end Hx
section
abbrev jk:=@Go.World
end
section
open Go.RowKit
theorem zi{k:IntKind}{a b:Int}(h:a=b):Ending.returned (.int k a)=.returned (.int k b):=by rw[h]
theorem Ba{a b:Bool}(h:a=b):Ending.returned (.bool a)=.returned (.bool b):=by rw[h]
theorem Ko(b:Bool)(w:jk):
 Calls prog 152 #[.bool b] w λe w'=>e=.returned (Im (Hx.kW b))/\w'=w:=by
 cases b
 .go_enter func152,ntmps152;go_wp2;go_ret;exact⟨rfl,rfl⟩
 .go_enter func152,ntmps152;go_wp2;go_ret;exact⟨rfl,rfl⟩
theorem aql(a b:Int)(w:jk):
 Calls prog 200 #[Im a,Im b] w λe w'=>e=.returned (Im (Hx.quot a b))/\w'=w:=by
 by_cases h:b=0
 .subst h;go_enter func200,ntmps200;go_wp2;go_ret;exact⟨zi (by simp[Hx.quot]),rfl⟩
 .have h':(b==0)=false:=by simpa using h
  go_enter func200,ntmps200;go_wp2;go_ret;exact⟨zi (by simp[Hx.quot,h]),rfl⟩
theorem aq4(a b:Int)(w:jk):
 Calls prog 201 #[Im a,Im b] w λe w'=>e=.returned (Im (Hx.rest a b))/\w'=w:=by
 by_cases h:b=0
 .subst h;go_enter func201,ntmps201;go_wp2;go_ret;exact⟨zi (by simp[Hx.rest]),rfl⟩
 .have h':(b==0)=false:=by simpa using h
  go_enter func201,ntmps201;go_wp2;go_ret;exact⟨zi (by simp[Hx.rest,h]),rfl⟩
theorem aem(o a b:Int)(w:jk):
 Calls prog 158 #[.int .u8 o,Im a,Im b] w λe w'=>e=.returned (Im (Hx.two o a b))/\w'=w:=by
 go_enter func158,ntmps158;go_wp2_with (first
  |(go_at_call 200;refine(aql _ _ _).mono ?_;rintro e w' ⟨rfl,rfl⟩)
  |(go_at_call 201;refine(aq4 _ _ _).mono ?_;rintro e w' ⟨rfl,rfl⟩)
  |(go_at_call 152;refine(Ko _ _).mono ?_;rintro e w' ⟨rfl,rfl⟩))
 all_goals (go_ret;exact⟨zi (by simp_all [Hx.two]),rfl⟩)
theorem aoZ(x:Int)(w:jk):
 Calls prog 199 #[.int .u64 x] w λe w'=>e=.returned (Im (Hx.VD x))/\w'=w:=by
 go_enter func199,ntmps199;go_wp2;go_ret;exact⟨rfl,rfl⟩
theorem ao0(x:Int)(w:jk):
 Calls prog 153 #[.int .u64 x] w λe w'=>e=.returned (Im (Hx.VD x))/\w'=w:=by
 go_enter func153,ntmps153;go_wp2_with (go_at_call 199;refine(aoZ _ _).mono ?_;rintro e w' ⟨rfl,rfl⟩);go_ret;exact⟨rfl,rfl⟩
def vJ(w:jk):Prop:=∀j,j<64->w.cell? (Ad 1 j)=some (.int .u8 (Lib.deBruijn64tab.getD j 0))
theorem atK(x a:Nat)(hx:x<18446744073709551616)(hx0:x≠0)(hlow:x&&&(18446744073709551616-x)=a):
 IntKind.u64.wrap (bits BinOp.and IntKind.u64 (x:Int) (IntKind.u64.wrap (-(x:Int))) * 285870213051353865)/288230376151711744=((a * 285870213051353865%18446744073709551616/288230376151711744:Nat):Int):=by
 have e1:IntKind.u64.wrap (-(x:Int))=((18446744073709551616-x:Nat):Int):=by rw[IntKind.wrap_u64];omega
 rw[e1,bits_and_u64_nat x _ hx (by omega),hlow,IntKind.wrap_u64];omega
theorem atJ(x k idx:Nat)(w:jk)(hx0:((x:Int)==0)=false)
 (key:IntKind.u64.wrap (bits BinOp.and IntKind.u64 (x:Int) (IntKind.u64.wrap (-(x:Int))) * 285870213051353865)/288230376151711744=(idx:Int))
 (hi:idx<64)(hk:k<64)(hcell:w.cell? (Ad 1 idx)=some (.int .u8 k)):
 Calls prog 151 #[.int .u64 x] w λe w'=>e=.returned (Im k)/\w'=w:=by
 go_enter func151,ntmps151;go_wp2_with (simp only[key]);go_ret;exact⟨rfl,rfl⟩
theorem atI(x:Int)(h0:0<=x)(hx:x<18446744073709551616)(w:jk)(hT:vJ w):
 Calls prog 151 #[.int .u64 x] w λe w'=>e=.returned (Im (Hx.tz x))/\w'=w:=by
 obtain⟨n,rfl⟩:=bI h0;by_cases hz:n=0
 .subst hz;go_enter func151,ntmps151;go_wp2;go_ret;exact⟨rfl,rfl⟩
 .have hx':n<2^64:=by simp;omega
  obtain⟨hlow,hk⟩:=Lib.lowest_bit 64 n hz hx';obtain⟨hi,htab⟩:=Lib.deBruijn64_at _ hk;have hcell:=hT _ hi;rw[htab]at hcell;exact atJ n _ _ w (by simp;omega) (atK n _ (by omega) hz hlow) hi hk hcell
theorem agU(x:Int)(h0:0<=x)(hx:x<18446744073709551616)(w:jk)(hT:vJ w):
 Calls prog 96 #[.int .u64 x] w λe w'=>e=.returned (Im (Hx.tz x))/\w'=w:=by
 go_enter func96,ntmps96;go_wp2_with (go_at_call 151;refine(atI _ ?_ ?_ _ hT).mono ?_;(first|assumption|omega);(first|assumption|omega);rintro e w' ⟨rfl,rfl⟩);go_ret;exact⟨rfl,rfl⟩
end
section
abbrev dN:=@Go.Calls.quiet_of_same
abbrev jm:=@Go.Value
end
section
open Go.RowKit
open Hx (Rd Pk Vw)
def BD(w:jk)(p:jm):Option Rd->Prop
 |none=>p=.pointer none
 |some r=>∃b o,p=Pt b o/\w.cell? (Ad b o)=some (Im r.id)/\w.cell? (Ad b (o+1))=some (Im r.WE)/\
   w.cell? (Ad b (o+2))=some (Im r.Tq)/\w.cell? (Ad b (o+3))=some (Im r.out)/\w.cell? (Ad b (o+4))=some (.bool r.U8)
def BA(w:jk)(p:jm):Option Pk->Prop
 |none=>p=.pointer none
 |some r=>∃b o,p=Pt b o/\w.cell? (Ad b o)=some (Im r.seq)/\w.cell? (Ad b (o+1))=some (Im r.size)/\
   w.cell? (Ad b (o+2))=some (Im r.on)
def IU(B:Nat)(w:jk)(a:Option Addr)(rs:List Rd):Prop:=
 ∀i r,rs[i]? =some r->∃b o,a=some (Ad b o)/\b<B/\BD w (Pt b (o+i * 5)) (some r)
def Ob(B:Nat)(w:jk)(a:Option Addr)(rs:List Pk):Prop:=
 ∀i r,rs[i]? =some r->∃b o,a=some (Ad b o)/\b<B/\BA w (Pt b (o+i * 3)) (some r)
structure BI(B:Nat)(w:jk)(M:Nat)(v:Vw):Prop where
 pW:∃a cap,w.cell? (Ad M 0)=some (.slice a v.pW.length cap)/\IU B w a v.pW
 qK:∃a cap,w.cell? (Ad M 1)=some (.slice a v.qK.length cap)/\Ob B w a v.qK
 qJ:∃a cap,w.cell? (Ad M 2)=some (.slice a v.qJ.length cap)/\Ob B w a v.qJ
 JF:v.pW.length<=8
 JE:v.qK.length<=16
 JD:v.qJ.length<=16
 ids:∀r∈v.pW,0<=r.id/\r.id<8
 Ij:v.Dt
theorem arh(M:Nat)(i:Int)(b off len cap:Nat)(w:jk)(h0:0<=i)(h1:i<len)
 (hr:w.cell? (Ad M 0)=some (.slice (some (Ad b off)) len cap)):
 Calls prog 97 #[Pt M 0,Im i] w λe w'=>e=.returned (Pt b (off+i.toNat * 5))/\w'=w:=by
 have h2:decide (i<0)=false:=by simpa using h0
 go_enter func97,ntmps97;go_wp2;go_ret;exact⟨rfl,rfl⟩
theorem afg(M:Nat)(i:Int)(a:Option Addr)(len cap:Nat)(w:jk)(h:i<0\/(len:Int)<=i)
 (hr:w.cell? (Ad M 0)=some (.slice a len cap)):
 Calls prog 97 #[Pt M 0,Im i] w λe w'=>e=.returned (.pointer none)/\w'=w:=by
 rcases h with h|h
 .have h2:decide (i<0)=true:=by simpa using h
  go_enter func97,ntmps97;go_wp2;go_ret;exact⟨rfl,rfl⟩
 .have h2:decide (i<0)=false:=by simp;omega
  go_enter func97,ntmps97;go_wp2;go_ret;exact⟨rfl,rfl⟩
theorem QI(B:Nat)(M:Nat)(i:Int)(v:Vw)(w:jk)(hv:BI B w M v):
 Calls prog 97 #[Pt M 0,Im i] w λe w'=>(∃p,e=.returned p/\BD w p (v.sN i))/\w'=w:=by
 obtain⟨a,cap,hc,hr⟩:=hv.pW;by_cases hi:i<0
 .refine(afg M i a _ cap w (jf hi) hc).mono ?_;rintro e w' ⟨rfl,rfl⟩;exact⟨⟨_,rfl,by simp[Hx.Vw.sN,hi,BD]⟩,rfl⟩
 .by_cases hl:i.toNat<v.pW.length
  .obtain⟨b,o,rfl,hb,hp⟩:=hr i.toNat v.pW[i.toNat] (by simp[hl]);refine(arh M i b o _ cap w (by omega) (by omega) hc).mono ?_;rintro e w' ⟨rfl,rfl⟩;exact⟨⟨_,rfl,by simpa [Hx.Vw.sN,hi,hl]using hp⟩,rfl⟩
  .refine(afg M i a _ cap w (je (by omega)) hc).mono ?_;rintro e w' ⟨rfl,rfl⟩;exact⟨⟨_,rfl,by simp[Hx.Vw.sN,hi,Nat.not_lt.1 hl,BD]⟩,rfl⟩
theorem akG(M:Nat)(i:Int)(b off len cap:Nat)(w:jk)(h0:0<=i)(h1:i<len)(h16:i<16)
 (hr:w.cell? (Ad M 1)=some (.slice (some (Ad b off)) len cap)):
 Calls prog 98 #[Pt M 0,Im i] w λe w'=>e=.returned (Pt b (off+i.toNat * 3))/\w'=w:=by
 have h2:decide (i<0)=false:=by simpa using h0
 have h3:decide (16<=i)=false:=by simpa using h16
 go_enter func98,ntmps98;go_wp2;go_ret;exact⟨rfl,rfl⟩
theorem abg(M:Nat)(i:Int)(a:Option Addr)(len cap:Nat)(w:jk)(h:i<0\/(len:Int)<=i)(h16:i<16)
 (hr:w.cell? (Ad M 1)=some (.slice a len cap)):
 Calls prog 98 #[Pt M 0,Im i] w λe w'=>e=.returned (.pointer none)/\w'=w:=by
 have h3:decide (16<=i)=false:=by simpa using h16
 rcases h with h|h
 .have h2:decide (i<0)=true:=by simpa using h
  go_enter func98,ntmps98;go_wp2;go_ret;exact⟨rfl,rfl⟩
 .have h2:decide (i<0)=false:=by simp;omega
  go_enter func98,ntmps98;go_wp2;go_ret;exact⟨rfl,rfl⟩
theorem ah3(M:Nat)(i:Int)(b off len cap:Nat)(af:Option Addr)(lf cf:Nat)(w:jk)(h0:16<=i)(h1:i-16<len)(hm:i<=9223372036854775807)
 (hf:w.cell? (Ad M 1)=some (.slice af lf cf))(hr:w.cell? (Ad M 2)=some (.slice (some (Ad b off)) len cap)):
 Calls prog 98 #[Pt M 0,Im i] w λe w'=>e=.returned (Pt b (off+(i-16).toNat * 3))/\w'=w:=by
 have h2:decide (i-16<0)=false:=by simp;omega
 have h3:decide (16<=i)=true:=by simpa using h0
 go_enter func98,ntmps98;go_wp2;go_ret;exact⟨rfl,rfl⟩
theorem ah2(M:Nat)(i:Int)(a:Option Addr)(len cap:Nat)(af:Option Addr)(lf cf:Nat)(w:jk)(h0:16<=i)(h:(len:Int)<=i-16)(hm:i<=9223372036854775807)
 (hf:w.cell? (Ad M 1)=some (.slice af lf cf))(hr:w.cell? (Ad M 2)=some (.slice a len cap)):
 Calls prog 98 #[Pt M 0,Im i] w λe w'=>e=.returned (.pointer none)/\w'=w:=by
 have h2:decide (i-16<0)=false:=by simp;omega
 have h3:decide (16<=i)=true:=by simpa using h0
 go_enter func98,ntmps98;go_wp2;go_ret;exact⟨rfl,rfl⟩
theorem Qy(B:Nat)(M:Nat)(i:Int)(v:Vw)(w:jk)(hv:BI B w M v)(hm:i<=9223372036854775807):
 Calls prog 98 #[Pt M 0,Im i] w λe w'=>(∃p,e=.returned p/\BA w p (v.uM i))/\w'=w:=by
 obtain⟨a,cap,hc,hr⟩:=hv.qK;obtain⟨a2,cap2,hc2,hr2⟩:=hv.qJ;by_cases h16:16<=i
 .by_cases hl:(i-16).toNat<v.qJ.length
  .obtain⟨b,o,rfl,hb,hp⟩:=hr2 (i-16).toNat v.qJ[(i-16).toNat] (by simp[hl]);refine(ah3 M i b o _ cap2 a _ cap w h16 (by omega) hm hc hc2).mono ?_;rintro e w' ⟨rfl,rfl⟩;exact⟨⟨_,rfl,by simpa [Hx.Vw.uM,h16,hl]using hp⟩,rfl⟩
  .refine(ah2 M i a2 _ cap2 a _ cap w h16 (by omega) hm hc hc2).mono ?_;rintro e w' ⟨rfl,rfl⟩;exact⟨⟨_,rfl,by simp only[Hx.Vw.uM,jh h16,bV (Nat.not_lt.1 hl)];rfl⟩,rfl⟩
 .by_cases hi:i<0
  .refine(abg M i a _ cap w (jf hi) (by omega) hc).mono ?_;rintro e w' ⟨rfl,rfl⟩;exact⟨⟨_,rfl,by simp[Hx.Vw.uM,h16,hi,BA]⟩,rfl⟩
  .by_cases hl:i.toNat<v.qK.length
   .obtain⟨b,o,rfl,hb,hp⟩:=hr i.toNat v.qK[i.toNat] (by simp[hl]);refine(akG M i b o _ cap w (by omega) (by omega) (by omega) hc).mono ?_;rintro e w' ⟨rfl,rfl⟩;exact⟨⟨_,rfl,by simpa [Hx.Vw.uM,h16,hi,hl]using hp⟩,rfl⟩
   .refine(abg M i a _ cap w (je (by omega)) (by omega) hc).mono ?_;rintro e w' ⟨rfl,rfl⟩;exact⟨⟨_,rfl,by simp[Hx.Vw.uM,h16,hi,Nat.not_lt.1 hl,BA]⟩,rfl⟩
theorem ZE(B:Nat)(M:Nat)(l:Int)(v:Vw)(w:jk)(hv:BI B w M v):
 Calls prog 95 #[Pt M 0,Im l] w λe w'=>e=.returned (Im (v.all l))/\w'=w:=by
 obtain⟨a1,c1,h1,-⟩:=hv.pW;obtain⟨a2,c2,h2,-⟩:=hv.qK;obtain⟨a3,c3,h3,-⟩:=hv.qJ;have m1:=hv.JF;have m2:=hv.JE;have m3:=hv.JD;clear hv;generalize hn1:v.pW.length=n1 at *;generalize hn2:v.qK.length=n2 at *;generalize hn3:v.qJ.length=n3 at *;have hall:v.all l=if l=0 then Hx.tN n1 else if l=1 then Hx.tN n2 else wrap64 (Hx.tN n3 * 65536):=by simp[Hx.Vw.all,hn1,hn2,hn3]
 rw[hall];clear hall hn1 hn2 hn3;go_enter func95,ntmps95;go_wp2;all_goals (go_ret;exact⟨zi (by simp_all [Hx.tN]),rfl⟩)
theorem Uc(x i:Int)(w:jk)(h0:0<=i)(h1:i<8):
 Calls prog 94 #[Im x,Im i] w λe w'=>e=.returned (.bool (Hx.Pg x i))/\w'=w:=by
 go_enter func94,ntmps94;go_wp2;go_ret;exact⟨rfl,rfl⟩
theorem aoG(o:Int)(p:jm)(r:Option Rd)(w:jk)(hp:BD w p r):
 Calls prog 155 #[.int .u8 o,p] w λe w'=>e=.returned (Im (Hx.JU o r))/\w'=w:=by
 cases r with
 |none=>
  obtain rfl:=hp;go_enter func155,ntmps155;go_wp2;go_ret;exact⟨rfl,rfl⟩
 |some r=>
  obtain⟨b,off,rfl,h1,h2,h3,h4,h5⟩:=hp;go_enter func155,ntmps155;go_wp2_with (go_at_call 152;refine(Ko _ _).mono ?_;rintro e w' ⟨rfl,rfl⟩);all_goals (go_ret;exact⟨zi (by simp_all [Hx.JU]),rfl⟩)
theorem aoF(o:Int)(p:jm)(r:Option Pk)(w:jk)(hp:BA w p r):
 Calls prog 156 #[.int .u8 o,p] w λe w'=>e=.returned (Im (Hx.Nw o r))/\w'=w:=by
 cases r with
 |none=>
  obtain rfl:=hp;go_enter func156,ntmps156;go_wp2;go_ret;exact⟨rfl,rfl⟩
 |some r=>
  obtain⟨b,off,rfl,h1,h2,h3⟩:=hp;go_enter func156,ntmps156;go_wp2;all_goals (go_ret;exact⟨zi (by simp_all [Hx.Nw]),rfl⟩)
theorem amn(p q:jm)(pk:Option Pk)(rd:Option Rd)(w:jk)(hp:BA w p pk)(hq:BD w q rd)(hid:∀r,rd=some r->0<=r.id/\r.id<8):
 Calls prog 157 #[p,q] w λe w'=>e=.returned (.bool (Hx.UG pk rd))/\∃n,w'=w.drewN n:=by
 cases pk with
 |none=>
  obtain rfl:=hp;cases rd with
  |none=>
   obtain rfl:=hq;go_enter func157,ntmps157;go_wp2_with fail;go_quiet (fail);go_wp2;go_ret;exact⟨rfl,_,rfl⟩
  |some r=>
   obtain⟨b,off,rfl,h1,h2,h3,h4,h5⟩:=hq;go_enter func157,ntmps157;go_wp2_with fail;go_quiet (fail);go_wp2;go_ret;exact⟨rfl,_,rfl⟩
 |some k=>
  obtain⟨b,off,rfl,h1,h2,h3⟩:=hp;cases rd with
  |none=>
   obtain rfl:=hq;go_enter func157,ntmps157;go_wp2_with fail;go_quiet (fail);go_wp2;go_ret;exact⟨rfl,_,rfl⟩
  |some r=>
   obtain⟨i0,i8⟩:=hid r rfl;obtain⟨b2,off2,rfl,q1,q2,q3,q4,q5⟩:=hq;clear hid;go_enter func157,ntmps157;go_wp2_with fail;go_quiet ((go_at_call 94;exact dN (Uc _ _ _ i0 i8)));go_wp2;go_ret;exact⟨rfl,_,rfl⟩
theorem ank(x:Int)(h0:0<=x)(hx:x<18446744073709551616)(w:jk)(hT:vJ w):
 Calls prog 154 #[.int .u64 x] w λe w'=>e=.returned (Im (Hx.lowest x))/\w'=w:=by
 by_cases hz:x=0
 .subst hz;go_enter func154,ntmps154;go_wp2;go_ret;exact⟨rfl,rfl⟩
 .have hz':(x==0)=false:=by simpa using hz
  have HZ:Hid (¬x=0):=hz;clear hz;go_enter func154,ntmps154;go_wp2_with (go_at_call 96;refine(agU _ h0 hx _ hT).mono ?_;rintro e w' ⟨rfl,rfl⟩);go_ret;exact⟨zi (by have:=HZ.out;simp[Hx.lowest,this]),rfl⟩
theorem arf{B:Nat}{w:jk}{M:Nat}{v:Vw}(hv:BI B w M v){i:Int}{r:Rd}(h:v.sN i=some r):0<=r.id/\r.id<8:=by
 refine hv.ids r ?_;simp only[Hx.Vw.sN]at h;split at h
 .cases h
 .exact bT h
theorem apc(B M:Nat)(o a b:Int)(v:Vw)(w:jk)(hv:BI B w M v)(hT:vJ w)(ha:a<=9223372036854775807):
 Calls prog 100 #[Pt M 0,.int .u8 o,Im a,Im b] w λe w'=>e=.returned (Im (Hx.outcome v o a b))/\∃n,w'=w.drewN n:=by
 have HI:Hid (∀i r,v.sN i=some r->0<=r.id/\r.id<8):=λi r h=>arf hv h;have hu:=Hx.EL a;have HU:Hid (0<=Hx.pY a/\Hx.pY a<18446744073709551616):=hu;clear hu;go_enter func100,ntmps100;go_wp2_with (first
  |(go_at_call 152;refine(Ko _ _).mono ?_;rintro e w' ⟨rfl,rfl⟩)
  |(go_at_call 153;refine(ao0 _ _).mono ?_;rintro e w' ⟨rfl,rfl⟩)
  |(go_at_call 154;refine(ank _ HU.out.1 HU.out.2 _ hT).mono ?_;rintro e w' ⟨rfl,rfl⟩)
  |(go_at_call 97;refine(QI B M _ v _ hv).mono ?_;rintro e w' ⟨⟨p,rfl,hp⟩,rfl⟩)
  |(go_at_call 98;refine(Qy B M _ v _ hv ha).mono ?_;rintro e w' ⟨⟨q,rfl,hq⟩,rfl⟩)
  |(go_at_call 155;refine(aoG _ _ _ _ hp).mono ?_;rintro e w' ⟨rfl,rfl⟩)
  |(go_at_call 156;refine(aoF _ _ _ _ hq).mono ?_;rintro e w' ⟨rfl,rfl⟩)
  |(go_at_call 157;refine(amn _ _ _ _ _ hq hp (HI.out _)).mono ?_;rintro e w1 ⟨rfl,n,rfl⟩)
  |(go_at_call 158;refine(aem _ _ _ _).mono ?_;rintro e w' ⟨rfl,rfl⟩))
 all_goals (go_ret;refine⟨zi ?_,?_⟩)
 all_goals (first|exact⟨0,rfl⟩|exact⟨_,rfl⟩|(clear hv hT HI HU;simp_all [Hx.outcome,Hx.pY]))
end
section
abbrev ah:=@Go.World.grownBy_alloc
abbrev bC:=@Go.RowKit.Below.heap_setCell
abbrev bG:=@Go.World.cell?_setCell_other
abbrev bQ:=@Go.World.cell?_of_block
abbrev dB:=@Go.World.cell?_setCell_same
abbrev dZ:=@Go.World.frozen?_of_block
end
section
open Go.RowKit
open Hx (Rd Pk Vw St Mc jJ)
section
theorem BD.keep{B:Nat}{w w':jk}{b o:Nat}{r:Rd}(hb:b<B)(hc:∀x:Addr,x.block<B->w'.cell? x=w.cell? x)
 (h:BD w (Pt b o) (some r)):BD w' (Pt b o) (some r):=by
 obtain⟨b',o',e,h1,h2,h3,h4,h5⟩:=h;obtain⟨rfl,rfl⟩:b=b'/\o=o':=by simpa using e
 exact⟨b,o,rfl,by rw[hc _ hb];exact h1,by rw[hc _ hb];exact h2,by rw[hc _ hb];exact h3,by rw[hc _ hb];exact h4,by rw[hc _ hb];exact h5⟩
theorem BA.keep{B:Nat}{w w':jk}{b o:Nat}{r:Pk}(hb:b<B)(hc:∀x:Addr,x.block<B->w'.cell? x=w.cell? x)
 (h:BA w (Pt b o) (some r)):BA w' (Pt b o) (some r):=by
 obtain⟨b',o',e,h1,h2,h3⟩:=h;obtain⟨rfl,rfl⟩:b=b'/\o=o':=by simpa using e
 exact⟨b,o,rfl,by rw[hc _ hb];exact h1,by rw[hc _ hb];exact h2,by rw[hc _ hb];exact h3⟩
theorem BI.keep{B:Nat}{w w':jk}{M:Nat}{v:Vw}(h:BI B w M v)(hc:∀x:Addr,x.block<B->w'.cell? x=w.cell? x)
 (hM:∀k,k<3->w'.cell? (Ad M k)=w.cell? (Ad M k)):BI B w' M v:=by
 refine⟨?_,?_,?_,h.JF,h.JE,h.JD,h.ids,h.Ij⟩
 .obtain⟨a,cap,h1,h2⟩:=h.pW;refine⟨a,cap,by rw[hM 0 (by omega)];exact h1,λi r hr=>?_⟩;obtain⟨b,o,e,hb,hp⟩:=h2 i r hr;exact⟨b,o,e,hb,hp.keep hb hc⟩
 .obtain⟨a,cap,h1,h2⟩:=h.qK;refine⟨a,cap,by rw[hM 1 (by omega)];exact h1,λi r hr=>?_⟩;obtain⟨b,o,e,hb,hp⟩:=h2 i r hr;exact⟨b,o,e,hb,hp.keep hb hc⟩
 .obtain⟨a,cap,h1,h2⟩:=h.qJ;refine⟨a,cap,by rw[hM 2 (by omega)];exact h1,λi r hr=>?_⟩;obtain⟨b,o,e,hb,hp⟩:=h2 i r hr;exact⟨b,o,e,hb,hp.keep hb hc⟩
def sD(l:List (Int×Int)):List jm:=l.flatMap λp=>[Im p.1,Im p.2]
structure kQ(B C:Nat)(w:jk)(M SB:Nat)(v:Vw)(m:Mc):Prop where
 view:BI B w M v
 bM:B<=M
 bS:B<=SB
 cM:M<C
 cS:SB<C
 ne:¬M=SB
 size:C<=w.heap.size
 jD:w.cell? (Ad M 3)=some (.slice (some (Ad SB 0)) m.jD.length m.jD.length)
 slot:∀k,k<m.jD.length->w.cell? (Ad SB k)=some (Im (m.jD.getD k 0))
 CB:∀k,k<m.jD.length->w.frozen? (Ad SB k)=false
 left:∀k,k<8->w.cell? (Ad M (4+k))=some (.int .u64 (m.left.getD k 0))
 Jw:∀k,k<8->w.frozen? (Ad M (4+k))=false
 P6:m.left.length=8
 jO:∃va,w.cell? (Ad M 12)=some va/\w.ownsRow C 76 2 va m.jO.length (sD m.jO)
 IY:w.frozen? (Ad M 12)=false
 Du:∀k,jJ (m.jD.getD k 0)
 G9:∀k,0<=m.left.getD k 0/\m.left.getD k 0<18446744073709551616
 J8:vJ w
 one:1<B
variable {B C:Nat}{w:jk}{M SB:Nat}{v:Vw}{m:Mc}
theorem kQ.grow(h:kQ B C w M SB v m){w':jk}(hg:w.grownBy w' none):kQ B C w' M SB v m:=by
 have hs:=h.size;have b1:=h.bM;have c1:=h.cM;have c2:=h.cS;have hb:∀k,k<w.heap.size->w'.heap[k]? =w.heap[k]? :=λk hk=>hg.block k hk (by simp);have hc:∀x:Addr,x.block<w.heap.size->w'.cell? x=w.cell? x:=λx hx=>bQ (hb _ hx);have hf:∀x:Addr,x.block<w.heap.size->w'.frozen? x=w.frozen? x:=λx hx=>dZ (hb _ hx);refine⟨h.view.keep (λx hx=>hc x (by omega)) (λk _=>hc _ (by show M<_;omega)),h.bM,h.bS,h.cM,h.cS,h.ne,dH h.size hg.size,?_,?_,?_,?_,?_,h.P6,?_,?_,h.Du,h.G9,?_,h.one⟩
 .rw[hc _ (by show M<_;omega)];exact h.jD
 .intro k hk;rw[hc _ (by show SB<_;omega)];exact h.slot k hk
 .intro k hk;rw[hf _ (by show SB<_;omega)];exact h.CB k hk
 .intro k hk;rw[hc _ (by show M<_;omega)];exact h.left k hk
 .intro k hk;rw[hf _ (by show M<_;omega)];exact h.Jw k hk
 .obtain⟨va,h1,h2⟩:=h.jO;exact⟨va,by rw[hc _ (by show M<_;omega)];exact h1,h2.kept hg (by cases va.ownBlock<;>simp)⟩
 .rw[hf _ (by show M<_;omega)];exact h.IY
 .intro j hj;have:=h.one;rw[hc _ (by show 1<_;omega)];exact h.J8 j hj
theorem kQ.alloc(h:kQ B C w M SB v m)(o:Obj):kQ B C (w.alloc o) M SB v m:=h.grow (ah w o none)
theorem kQ.drewN(h:kQ B C w M SB v m)(n:Nat):kQ B C (w.drewN n) M SB v m:=
 h.grow ⟨rfl,rfl,rfl,aj _,λ_ _ _=>rfl⟩
theorem abr(l:List Int)(k j:Nat)(x:Int)(hk:k<l.length):(l.set k x).getD j 0=if j=k then x else l.getD j 0:=by
 simp only[aU,List.getElem?_set];by_cases h:k=j
 .subst h;simp[hk]
 .simp[h,Ne.symm h]
theorem vO(w:jk)(a:Addr)(u:jm):w.grownBy (w.setCell a u) (some a.block):=
 ⟨rfl,rfl,rfl,by simp,λk _ hk=>bC _ _ _ _ (λe=>hk (by rw[e]))⟩
theorem kQ.put(h:kQ B C w M SB v m){i:Nat}{x:Int}(hi:i<m.jD.length)(hx:jJ x):
 kQ B C (w.setCell (Ad SB i) (Im x)) M SB v (m.put i x):=by
 have hne:=h.ne;have b1:=h.bM;have b2:=h.bS;have c2:=h.cS;have hs:=h.size;have ho:∀y:Addr,¬y.block=SB->(w.setCell (Ad SB i) (Im x)).cell? y=w.cell? y:=λy hy=>bG _ _ _ _ (λe=>hy (by rw[<-e]));have hlen:(m.put i x).jD.length=m.jD.length:=by simp[Hx.Mc.put]
 have hget:∀j,(m.put i x).jD.getD j 0=if j=i then x else m.jD.getD j 0:=λj=>by
  have:=abr m.jD i j x hi;simpa [Hx.Mc.put]using this
 refine⟨h.view.keep (λy hy=>ho y (by omega)) (λk _=>ho _ hne),h.bM,h.bS,h.cM,h.cS,h.ne,by simpa using h.size,?_,?_,?_,?_,?_,h.P6,?_,?_,?_,h.G9,?_,h.one⟩
 .rw[ho _ hne,hlen];exact h.jD
 .intro k hk;rw[hlen]at hk;rw[hget];by_cases e:k=i
  .subst e;rw[jh rfl];exact dB _ _ _ (h.slot k hk)
  .rw[jg e,bG _ _ _ _ (by intro h';cases h';exact e rfl)];exact h.slot k hk
 .intro k hk;rw[hlen]at hk;simpa using h.CB k hk
 .intro k hk;rw[ho _ hne];exact h.left k hk
 .intro k hk;simpa using h.Jw k hk
 .obtain⟨va,h1,h2⟩:=h.jO;refine⟨va,by rw[ho _ hne];exact h1,h2.kept (vO w (Ad SB i) _) ?_⟩;cases hb:va.ownBlock with
  |none=>exact jf rfl
  |some g=>
   right;have:=(h2.lt g hb).1;simp;omega
 .simpa using h.IY
 .intro k;rw[hget];split
  .exact hx
  .exact h.Du k
 .intro j hj;have:=h.one;rw[ho _ (by show¬1=SB;omega)];exact h.J8 j hj
theorem kQ.lX(h:kQ B C w M SB v m){i:Nat}{x:Int}(hi:i<8)(hx:0<=x/\x<18446744073709551616):
 kQ B C (w.setCell (Ad M (4+i)) (.int .u64 x)) M SB v (m.lX i x):=by
 have hne:=h.ne;have b1:=h.bM;have b2:=h.bS;have c2:=h.cS;have hs:=h.size;have hl:=h.P6;have ho:∀y:Addr,¬y.block=M->(w.setCell (Ad M (4+i)) (.int .u64 x)).cell? y=w.cell? y:=λy hy=>bG _ _ _ _ (λe=>hy (by rw[<-e]));have PE:∀k,¬k=4+i->(w.setCell (Ad M (4+i)) (.int .u64 x)).cell? (Ad M k)=w.cell? (Ad M k):=λk hk=>bG _ _ _ _ (by intro h';cases h';exact hk rfl);have hget:∀j,(m.lX i x).left.getD j 0=if j=i then x else m.left.getD j 0:=λj=>by
  have:=abr m.left i j x (by omega);simpa [Hx.Mc.lX]using this
 refine⟨h.view.keep (λy hy=>ho y (by omega)) (λk hk=>PE k (by omega)),h.bM,h.bS,h.cM,h.cS,h.ne,by simpa using h.size,?_,?_,?_,?_,?_,?_,?_,?_,h.Du,?_,?_,h.one⟩
 .rw[PE 3 (by omega)];exact h.jD
 .intro k hk;rw[ho _ (λe=>hne e.symm)];exact h.slot k hk
 .intro k hk;simpa using h.CB k hk
 .intro k hk;rw[hget];by_cases e:k=i
  .subst e;rw[jh rfl];exact dB _ _ _ (h.left k hk)
  .rw[jg e,PE _ (by omega)];exact h.left k hk
 .intro k hk;simpa using h.Jw k hk
 .simp[Hx.Mc.lX,hl]
 .obtain⟨va,h1,h2⟩:=h.jO;have c1:=h.cM;refine⟨va,by rw[PE 12 (by omega)];exact h1,h2.kept (vO w (Ad M (4+i)) _) ?_⟩;cases hb:va.ownBlock with
  |none=>exact jf rfl
  |some g=>
   right;have:=(h2.lt g hb).1;simp;omega
 .simpa using h.IY
 .intro k;rw[hget];split
  .exact hx
  .exact h.G9 k
 .intro j hj;have:=h.one;rw[ho _ (by show¬1=M;omega)];exact h.J8 j hj
def zG(w:jk)(b o:Nat)(s:St):Prop:=
 w.cell? (Ad b o)=some (.int .u8 s.op)/\w.cell? (Ad b (o+1))=some (Im s.a)/\w.cell? (Ad b (o+2))=some (Im s.b)/\
 w.cell? (Ad b (o+3))=some (Im s.c)/\w.cell? (Ad b (o+4))=some (Im s.d)/\w.cell? (Ad b (o+5))=some (Im s.depth)/\
 w.cell? (Ad b (o+6))=some (Im s.jY)
end
end
section
open Go
section
variable {P:Program}{ops:Array Oper}{md:Region.Mode}{C:jk->Prop}
theorem jA{p:Prop}(h:p):Go.RowKit.Hid p:=h
def zB(P:Program)(md:Region.Mode)(ops:Array Oper)(C:jk->Prop)(n:Nat)(L:Array Bool->Act->Prop):Nat->Array Bool->Act->Prop
 |0,done,a=>L done a
 |f+1,done,a=>Region.ready md ops done≠[]/\∀i∈Region.ready md ops done,i<n/\qOp P ops C i (zB P md ops C n L f (done.setIfInBounds i true)) a
theorem zB.any{n g:Nat}{L:Array Bool->Act->Prop}{Q:Exit->Act->jk->Prop}(hL:∀done a w,C w->L done a->wpAny P md ops Q g done a w):
 ∀(f:Nat)(done:Array Bool)(a:Act)(w:jk),C w->zB P md ops C n L f done a->wpAny P md ops Q (f+g) done a w
 |0,done,a,w,hw,h=>by rw[gW];exact hL _ _ _ hw h
 |f+1,done,a,w,hw,h=>by
  have e:f+1+g=(f+g)+1:=by omega
  rw[e];exact⟨λh0=>jl h0 h.1,λi hi=>wpOp_of_qOp hw (λa' w' hw' h'=>zB.any hL f _ a' w' hw' h') (h.2 i hi).2⟩
theorem zB.first{n i:Nat}{oi:Oper}{v:jm}{L:Array Bool->Act->Prop}(hi:ops[i]? =some oi)(hsel:∀(j:Nat)(o:Oper) cs b,ops[j]? =some o->o.op≠.select cs b)
 (hs:Region.sinkB md ops n=true)(hc:Region.chainB md ops n=true)(hn:n<ops.size)(hin:i<n)
 (hend:∀done a,L done a->∀j∈Region.ready md ops done,n<=j):
 ∀(f:Nat)(done:Array Bool)(a:Act),HeadInv md ops n done->
  (∀j oj,ops[j]? =some oj->j≠i->done.getD j true=false->(∀e∈oj.after,Region.binds md e=true->e.on≠i)->oi.apart ops oj=true)->
  i∈Region.ready md ops done->YieldsIn P ops C oi v a->
  zB P md ops C n L f (done.setIfInBounds i true) (a.put oi.dst v)->zB P md ops C n L (f+1) done a:=by
 intro f;induction f with
 |zero=>
  intro done a inv _ hr hy H;have hun:=(mem_ready.1 hr).1;refine⟨λh=>(by rw[h]at hr;cases hr),λj hj=>?_⟩;have hjn:j<n:=Nat.lt_of_not_le λh=>tail_waits hs hc hn inv _ i rfl hin hun j h hj;refine⟨hjn,?_⟩;by_cases hji:j=i
  .subst hji;exact hy.qOp hi H
  .exact jl (hend _ _ H j (ready_mono hj hji)) (by omega)
 |succ f ih=>
  intro done a inv hfree hr hy H;have hun:=(mem_ready.1 hr).1;refine⟨λh=>(by rw[h]at hr;cases hr),λj hj=>?_⟩;have hjn:j<n:=Nat.lt_of_not_le λh=>tail_waits hs hc hn inv _ i rfl hin hun j h hj;refine⟨hjn,?_⟩;by_cases hji:j=i
  .subst hji;exact hy.qOp hi H
  .obtain⟨hjun,oj,hoj,hall⟩:=mem_ready.1 hj;have hnot:∀e∈oj.after,Region.binds md e=true->e.on≠i:=λe he hb heq=>by
    have h1:=hall e he hb;rw[heq,getD_both hun]at h1;cases h1
   have h2:=qOp_put hoj (hfree j oj hoj hji hjun hnot) (λcs b=>hsel i oi cs b hi) (λcs b=>hsel j oj cs b hoj) hy (H.2 j (ready_mono hj hji)).2;have hfree':∀k ok,ops[k]? =some ok->k≠i->(done.setIfInBounds j true).getD k true=false->
    (∀e∈ok.after,Region.binds md e=true->e.on≠i)->oi.apart ops ok=true:=λk ok hk hki hu hno=>by
    refine hfree k ok hk hki ?_ hno;by_cases hjk:j=k
    .subst hjk;exact hjun
    .rw[getD_set_ne true hjk]at hu;exact hu
   refine qOp_mono (λa' h3=>ih (done.setIfInBounds j true) a' (inv.set hj hjn) hfree' (ready_mono hr (Ne.symm hji)) h3.1 ?_) h2;rw[Array.setIfInBounds_comm _ _ hji];exact h3.2
theorem zB.lex{n g:Nat}{Lq:Act->Prop}(hsel:Region.noSelect ops=true)(hs:Region.sinkB md ops n=true)(hc:Region.chainB md ops n=true)(hn:n<ops.size):
 ∀(l:List Oper)(k:Nat)(done:Array Bool)(a:Act),(∀j,j<l.length->l[j]? =ops[k+j]?)->k+l.length=n->HeadInv md ops n done->
 Region.lexHead md ops g l.length k done=true->wpQuiet P ops C Lq l a->
 zB P md ops C n (λdone' a'=>Region.seqB md ops g n done'=true/\Lq a') l.length done a
 |[],k,done,a,_,hk,_,hB,h=>by
  obtain rfl:k=n:=by simpa using hk
  exact⟨by simpa [Region.lexHead]using hB,h⟩
 |o::l,k,done,a,hl,hk,inv,hB,h=>by
  have h0:ops[k]? =some o:=by simpa using (hl 0 (by simp)).symm
  simp only[aF,Region.lexHead,dD]at hB;obtain⟨⟨hr,hf⟩,hB'⟩:=hB;have hkn:k<n:=by simp only[aF]at hk;omega
  have hr':k∈Region.ready md ops done:=by simpa using hr
  have hst:qOp P ops C k (wpQuiet P ops C Lq l) a:=by unfold qOp;simp only[h0];exact h
  obtain⟨v,hy,hK⟩:=yieldsIn_of_qOp h0 hst;exact zB.first h0 (Region.noSelect_spec hsel) hs hc hn hkn (λdone' a' hL=>seqB_ready hL.1) l.length done a inv (Region.free_spec h0 hf) hr' hy
   (zB.lex hsel hs hc hn l (k+1) _ _ (λj hj=>by have:=hl (j+1) (by simp;omega);simpa [fE,Nat.add_comm 1 j]using this) (by simp only[aF]at hk;omega) (inv.set hr' hkn) hB' hK)
theorem YS{id:Nat}{Q:Exit->Act->jk->Prop}{a:Act}{w:jk}{l:List Oper}(n:Nat)(hm:P.follows .mixedOrders=true)(hB:Region.lexTailB .any l.toArray n=true)(hC:C w.drew)
 (h:wpQuiet P l.toArray C (λa'=>∀w',C w'->wpList P l.toArray Q (l.drop n) a' w') (l.take n) a):(Code.region id l.toArray true).wp P Q a w:=by
 simp only[Region.lexTailB,dD,decide_eq_true_eq]at hB;obtain⟨⟨⟨⟨hsel,hn⟩,hs⟩,hc⟩,hlex⟩:=hB;have hn':n<l.length:=by simpa using hn
 have htl:(l.take n).length=n:=by simp;omega
 have hdl:(l.drop n).length=l.toArray.size-n:=by simp
 have inv0:HeadInv .any l.toArray n (Array.replicate l.toArray.size false):=
  ⟨by simp,λj oj _ hl=>(by rw[getD_replicate_false]at hl;cases hl),λt _ ht=>getD_in (by simpa using ht) (getD_replicate_false _ _)⟩
 have H:=zB.lex (P:=P) (C:=C) (md:=.any) (g:=l.toArray.size-n) hsel hs hc hn (l.take n) 0 _ a (λj hj=>by
  have hj':j<n:=by rw[htl]at hj;exact hj
  simp[hj']) (by simpa using htl) inv0 (by rw[htl];exact hlex) h
 refine wp_region_any hm ?_;have:=zB.any (Q:=Q) (g:=l.toArray.size-n) (λdone a' w' hw' hL=>by
  have:=wpAny_of_seq (P:=P) (md:=.any) (Q':=Q) (l.drop n) n done a' w' (λj=>by simp[List.getElem?_drop]) (by rw[hdl];exact hL.1) (hL.2 w' hw')
  rwa [hdl]at this) _ _ _ w.drew hC H
 rw[htl,show n+(l.toArray.size-n)=l.toArray.size by omega]at this;exact this
theorem nP{id:Nat}{Q:Exit->Act->jk->Prop}{a:Act}{w:jk}{l:List Oper}(n:Nat)(hm:P.follows .mixedOrders=true)(hB:Region.lexTailB .any l.toArray n=true)
 (h:wpQuiet P l.toArray (λw'=>∃n,w'=w.drewN n) (λa'=>∀w',(∃n,w'=w.drewN n)->wpList P l.toArray Q (l.drop n) a' w') (l.take n) a):(Code.region id l.toArray true).wp P Q a w:=
 YS n hm hB ⟨1,rfl⟩ h
theorem CO{id:Nat}{Q:Exit->Act->jk->Prop}{a:Act}{w:jk}{k:Nat}{l:List Oper}(n:Nat)(hm:P.follows .mixedOrders=true)(hB:Region.lexTailB .any l.toArray n=true)
 (h:wpQuiet P l.toArray (λw'=>∃n,w'=w.drewN n) (λa'=>∀w',(∃n,w'=w.drewN n)->wpList P l.toArray Q (l.drop n) a' w') (l.take n) a):(Code.region id l.toArray true).wp P Q a (w.drewN k):=
 YS n hm hB ⟨k+1,rfl⟩ h
end
end
end Go.Proofs.YthllhabjfchgiaaGreatDoor
