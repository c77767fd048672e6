import Derived.WalkKit
import Derived.Lib.TrailingZeros
import Derived.Test.YthllhabjfchgiaaGreatDoorProg
import Derived.WalkSpells
import Derived.WalkLawsBesides
import Derived.Deep.QuietTactic
import Derived.BigQuiet
import Derived.Laws.Bits64b
import Derived.Below
import Derived.Deep.RegionHeld3
import Derived.Deep.AppendLies
import Derived.StillTail
import Derived.Deep.Quiet
set_option maxRecDepth 100000
set_option maxHeartbeats 8000000
namespace Go.Proofs.YthllhabjfchgiaaGreatDoor
open _root_.Go.Proofs.Tryz
section
abbrev Im(n:Int):Value:=.int .i64 n
abbrev Pt(b o:Nat):Value:=.pointer (some ⟨b,o,none⟩)
abbrev Ad(b o:Nat):Addr:=⟨b,o,none⟩
abbrev Nl:Value:=.slice none 0 0
end
namespace Hx
open Go.RowKit
structure Rd where
 id:Int
 DF:Int
 cO:Int
 out:Int
 nX:Bool
structure Pk where
 seq:Int
 size:Int
 on:Int
structure Vw where
 ah:List Rd
 aG:List Pk
 aJ:List Pk
def aZ(x:Int):Prop:=-9223372036854775808<=x/\x<=9223372036854775807
structure Vw.yL(v:Vw):Prop where
 ah:∀r∈v.ah,aZ r.id/\aZ r.DF/\aZ r.cO/\aZ r.out
 aG:∀p∈v.aG,aZ p.seq/\aZ p.size/\aZ p.on
 aJ:∀p∈v.aJ,aZ p.seq/\aZ p.size/\aZ p.on
def sK(b:Bool):Int:=if b then 1 else 0
def Fp(a b:Int):Int:=if b=0 then 0 else wrap64 (a.tdiv b)
def rest(a b:Int):Int:=if b=0 then 0 else a.tmod b
def two(o a b:Int):Int:=
 if o=10 then wrap64 (a+b)else if o=11 then wrap64 (a-b)else if o=12 then wrap64 (a * b)
 else if o=13 then Fp a b else if o=14 then rest a b
 else if o=15 then sK (decide (a<b))else if o=16 then sK (decide (a<=b))
 else if o=17 then sK (a==b)else if o=18 then sK (a !=b)
 else if o=19 then bits .and .i64 a b else if o=20 then bits .or .i64 a b else 0
def afl(x:Int):Int:=IntKind.u64.wrap (bits .and .u64 (x/2) 6148914691236517205+bits .and .u64 x 6148914691236517205)
def afm(x:Int):Int:=IntKind.u64.wrap (bits .and .u64 (x/4) 3689348814741910323+bits .and .u64 x 3689348814741910323)
def afn(x:Int):Int:=bits .and .u64 (IntKind.u64.wrap (x/16+x)) 1085102592571150095
def PZ(x:Int)(n:Int):Int:=IntKind.u64.wrap (x+x/n)
def PY(x:Int):Int:=bits .and .i64 (wrap64 (PZ (PZ (PZ (afn (afm (afl x))) 256) 65536) 4294967296)) 127
def ug(x:Int):Int:=IntKind.u64.wrap x
def tz(x:Int):Int:=Lib.ctz 64 x.toNat
def lowest(x:Int):Int:=if x=0 then -1 else tz x
def Kr(x i:Int):Bool:=bits .and .i64 (x/2^i.toNat) 1==1
def Vw.aK(v:Vw)(i:Int):Option Rd:=if i<0 then none else v.ah[i.toNat]?
def Vw.pW(v:Vw)(i:Int):Option Pk:=
 if 16<=i then v.aJ[(i-16).toNat]?else if i<0 then none else v.aG[i.toNat]?
def zF(n:Nat):Int:=wrap64 (wrap64 (2^n)-1)
def Vw.all(v:Vw)(l:Int):Int:=
 if l=0 then zF v.ah.length else if l=1 then zF v.aG.length else wrap64 (zF v.aJ.length * 65536)
def Ip(o:Int):Option Rd->Int
 |none=>0
 |some r=>if o=28 then r.id else if o=29 then r.DF else if o=30 then r.cO else if o=31 then r.out else sK r.nX
def Io(o:Int):Option Pk->Int
 |none=>0
 |some p=>if o=33 then p.seq else p.size
def Vl:Option Pk->Option Rd->Bool
 |some p,some r=>Kr p.on r.id
 |_,_=>false
def outcome(v:Vw)(o a b:Int):Int:=
 if o=7 then a else if o=8 then wrap64 (-a)else if o=9 then sK (a==0)
 else if o=23 then PY (ug a)else if o=24 then lowest (ug a)else if o=27 then sK (a== -1)
 else if o=28\/o=29\/o=30\/o=31\/o=32 then Ip o (v.aK a)
 else if o=33\/o=34 then Io o (v.pW a)
 else if o=35 then sK (Vl (v.pW a) (v.aK b))
 else two o a b
structure St where
 op:Int
 a:Int
 b:Int
 c:Int
 d:Int
 depth:Int
 to:Int
structure Mc where
 aF:List Int
 left:List Int
 aY:List (Int×Int)
def Mc.get(m:Mc)(i:Int):Int:=m.aF.getD i.toNat 0
def Mc.put(m:Mc)(i x:Int):Mc:={m with aF:=m.aF.set i.toNat x}
def Mc.zZ(m:Mc)(i:Int):Int:=m.left.getD i.toNat 0
def Mc.pX(m:Mc)(i x:Int):Mc:={m with left:=m.left.set i.toNat x}
def choose(s:St)(better:Bool)(m:Mc):Mc:=
 if better||m.get s.a== -1 then (m.put s.a (m.get s.c)).put s.b (m.get s.d)else m
def Dj(x y:Int):Int:=bits .or .i64 x (wrap64 (2^(ug y%64).toNat))
def work(v:Vw)(s:St)(m:Mc):Mc:=
 if s.op=6 then m.put s.a s.b
 else if s.op=21 then m.put s.a (v.all s.b)
 else if s.op=22 then m.put s.a (Dj (m.get s.a) (m.get s.b))
 else if s.op=25 then choose s (decide (m.get s.d<m.get s.b)) m
 else if s.op=26 then choose s (decide (m.get s.b<m.get s.d)) m
 else m.put s.a (outcome v s.op (m.get s.b) (m.get s.c))
def qp(v:Vw)(s:St)(m:Mc):Mc:=m.pX s.depth (ug (bits .and .i64 (m.get s.c) (v.all s.a)))
def turn(s:St)(loop:Int)(m:Mc):Mc×Int:=
 if m.zZ s.depth=0 then (m,s.to)
 else ((m.put s.b (tz (m.zZ s.depth))).pX s.depth (bits .and .u64 (m.zZ s.depth) (IntKind.u64.wrap (m.zZ s.depth-1))),loop+1)
def St.slot(n:Nat)(x:Int):Prop:=0<=x/\x<n
def St.ML(n:Nat)(s:St):Prop:=
 aZ s.b/\slot n s.a/\(s.op=6\/s.op=21\/(slot n s.b/\(s.op=22\/(slot n s.c/\((s.op=25\/s.op=26)->slot n s.d)))))
theorem Ho(x:Int):aZ (wrap64 x):=by unfold wrap64 aZ;omega
theorem OV(b:Bool):aZ (sK b):=by unfold sK aZ;split<;>omega
theorem EJ(o:BinOp)(x y:Int):aZ (bits o .i64 x y):=⟨bits_lo_i64 _ _ _,bits_hi_i64 _ _ _⟩
theorem ac6(a b:Int)(h:aZ a):aZ (a.tmod b):=by
 unfold aZ at *;by_cases ha:0<=a
 .have h1:=Int.tmod_nonneg b ha;have h2:a.tmod b<=a:=by
   obtain⟨n,rfl⟩:=Int.eq_ofNat_of_zero_le ha;have:((n:Int).tmod b).natAbs<=n:=by rw[Int.natAbs_tmod];exact Nat.mod_le _ _
   omega
  omega
 .have h1:(a.tmod b).natAbs<=a.natAbs:=by rw[Int.natAbs_tmod];exact Nat.mod_le _ _
  have h2:=Int.tmod_nonneg b (show 0<= -a by omega);rw[Int.neg_tmod]at h2;omega
theorem ac4(a b:Int)(h:aZ a):aZ (rest a b):=by
 unfold rest;split
 .unfold aZ;omega
 .exact ac6 a b h
theorem ac3(a b:Int):aZ (Fp a b):=by
 unfold Fp;split
 .unfold aZ;omega
 .exact Ho _
theorem tq:aZ 0:=by unfold aZ;omega
theorem ac7(o a b:Int)(h:aZ a):aZ (two o a b):=by
 unfold two;repeat' split
 all_goals first|exact Ho _|exact OV _|exact EJ _ _ _|exact ac3 _ _|exact ac4 _ _ h|exact tq
theorem QO(x:Int)(h0:0<=x)(h:x<18446744073709551616):0<=tz x/\tz x<=64:=by
 unfold tz;refine⟨by omega,?_⟩;by_cases hz:x.toNat=0
 .simp[Lib.ctz,hz]
 .have:=(Lib.lowest_bit 64 x.toNat hz (by omega)).2;omega
theorem ac0(x:Int)(h0:0<=x)(h:x<18446744073709551616):aZ (lowest x):=by
 have:=QO x h0 h;unfold lowest aZ;split<;>omega
theorem Vw.VQ{v:Vw}{i:Int}{r:Rd}(h:v.aK i=some r):r∈v.ah:=by
 simp only[Vw.aK]at h;split at h
 .cases h
 .exact List.mem_of_getElem? h
theorem Vw.VP{v:Vw}{i:Int}{p:Pk}(h:v.pW i=some p):p∈v.aG\/p∈v.aJ:=by
 simp only[Vw.pW]at h;split at h
 .exact Or.inr (List.mem_of_getElem? h)
 .split at h
  .cases h
  .exact Or.inl (List.mem_of_getElem? h)
theorem ac2{v:Vw}(hv:v.yL)(o i:Int):aZ (Ip o (v.aK i)):=by
 cases h:v.aK i with
 |none=>exact tq
 |some r=>
  obtain⟨h1,h2,h3,h4⟩:=hv.ah r (Vw.VQ h);simp only[Ip];repeat' split
  all_goals first|assumption|exact OV _
theorem ac1{v:Vw}(hv:v.yL)(o i:Int):aZ (Io o (v.pW i)):=by
 cases h:v.pW i with
 |none=>exact tq
 |some p=>
  have h1:aZ p.seq/\aZ p.size:=by
   rcases Vw.VP h with h|h
   .exact⟨(hv.aG p h).1,(hv.aG p h).2.1⟩
   .exact⟨(hv.aJ p h).1,(hv.aJ p h).2.1⟩
  simp only[Io];split
  .exact h1.1
  .exact h1.2
theorem I4(a:Int):0<=ug a/\ug a<18446744073709551616:=by
 unfold ug;rw[IntKind.wrap_u64];omega
theorem U7{v:Vw}(hv:v.yL)(o a b:Int)(h:aZ a):aZ (outcome v o a b):=by
 unfold outcome;repeat' split
 all_goals first|exact h|exact Ho _|exact OV _|exact EJ _ _ _|exact ac0 _ (I4 a).1 (I4 a).2|exact ac2 hv _ _|exact ac1 hv _ _|exact ac7 _ _ _ h
end Hx
section
open Go.RowKit
theorem tX{k:IntKind}{a b:Int}(h:a=b):Ending.returned (.int k a)=.returned (.int k b):=by rw[h]
theorem wF{a b:Bool}(h:a=b):Ending.returned (.bool a)=.returned (.bool b):=by rw[h]
theorem MK(b:Bool)(w:World):
 Calls prog 152 #[.bool b] w fun e w'=>e=.returned (Im (Hx.sK b))/\w'=w:=by
 cases b
 .go_enter func152,ntmps152;go_wp2;go_ret;exact⟨rfl,rfl⟩
 .go_enter func152,ntmps152;go_wp2;go_ret;exact⟨rfl,rfl⟩
theorem agA(a b:Int)(w:World):
 Calls prog 200 #[Im a,Im b] w fun e w'=>e=.returned (Im (Hx.Fp a b))/\w'=w:=by
 by_cases h:b=0
 .subst h;go_enter func200,ntmps200;go_wp2;go_ret;exact⟨tX (by simp[Hx.Fp]),rfl⟩
 .have h':(b==0)=false:=by simpa using h
  go_enter func200,ntmps200;go_wp2;go_ret;exact⟨tX (by simp[Hx.Fp,h]),rfl⟩
theorem agT(a b:Int)(w:World):
 Calls prog 201 #[Im a,Im b] w fun e w'=>e=.returned (Im (Hx.rest a b))/\w'=w:=by
 by_cases h:b=0
 .subst h;go_enter func201,ntmps201;go_wp2;go_ret;exact⟨tX (by simp[Hx.rest]),rfl⟩
 .have h':(b==0)=false:=by simpa using h
  go_enter func201,ntmps201;go_wp2;go_ret;exact⟨tX (by simp[Hx.rest,h]),rfl⟩
theorem afz(o a b:Int)(w:World):
 Calls prog 158 #[.int .u8 o,Im a,Im b] w fun e w'=>e=.returned (Im (Hx.two o a b))/\w'=w:=by
 go_enter func158,ntmps158;go_wp2_with (first
  |(go_at_call 200;refine(agA _ _ _).mono ?_;rintro e w' ⟨rfl,rfl⟩)
  |(go_at_call 201;refine(agT _ _ _).mono ?_;rintro e w' ⟨rfl,rfl⟩)
  |(go_at_call 152;refine(MK _ _).mono ?_;rintro e w' ⟨rfl,rfl⟩))
 all_goals (go_ret;exact⟨tX (by simp_all [Hx.two]),rfl⟩)
theorem afo(x:Int)(w:World):
 Calls prog 199 #[.int .u64 x] w fun e w'=>e=.returned (Im (Hx.PY x))/\w'=w:=by
 go_enter func199,ntmps199;go_wp2;go_ret;exact⟨rfl,rfl⟩
theorem afp(x:Int)(w:World):
 Calls prog 153 #[.int .u64 x] w fun e w'=>e=.returned (Im (Hx.PY x))/\w'=w:=by
 go_enter func153,ntmps153;go_wp2_with (go_at_call 199;refine(afo _ _).mono ?_;rintro e w' ⟨rfl,rfl⟩);go_ret;exact⟨rfl,rfl⟩
def mZ(w:World):Prop:=∀j,j<64->w.cell? (Ad 1 j)=some (.int .u8 (Lib.deBruijn64tab.getD j 0))
theorem ai8(x a:Nat)(hx:x<18446744073709551616)(hx0:x≠0)(hlow:x&&&(18446744073709551616-x)=a):
 IntKind.u64.wrap (bits BinOp.and IntKind.u64 (x:Int) (IntKind.u64.wrap (-(x:Int))) * 285870213051353865)/288230376151711744=((a * 285870213051353865%18446744073709551616/288230376151711744:Nat):Int):=by
 have e1:IntKind.u64.wrap (-(x:Int))=((18446744073709551616-x:Nat):Int):=by rw[IntKind.wrap_u64];omega
 rw[e1,bits_and_u64_nat x _ hx (by omega),hlow,IntKind.wrap_u64];omega
theorem ai7(x k idx:Nat)(w:World)(hx0:((x:Int)==0)=false)
 (key:IntKind.u64.wrap (bits BinOp.and IntKind.u64 (x:Int) (IntKind.u64.wrap (-(x:Int))) * 285870213051353865)/288230376151711744=(idx:Int))
 (hi:idx<64)(hk:k<64)(hcell:w.cell? (Ad 1 idx)=some (.int .u8 k)):
 Calls prog 151 #[.int .u64 x] w fun e w'=>e=.returned (Im k)/\w'=w:=by
 go_enter func151,ntmps151;go_wp2_with (simp only[key]);go_ret;exact⟨rfl,rfl⟩
theorem ai6(x:Int)(h0:0<=x)(hx:x<18446744073709551616)(w:World)(hT:mZ w):
 Calls prog 151 #[.int .u64 x] w fun e w'=>e=.returned (Im (Hx.tz x))/\w'=w:=by
 obtain⟨n,rfl⟩:=Int.eq_ofNat_of_zero_le h0;by_cases hz:n=0
 .subst hz;go_enter func151,ntmps151;go_wp2;go_ret;exact⟨rfl,rfl⟩
 .have hx':n<2^64:=by simp;omega
  obtain⟨hlow,hk⟩:=Lib.lowest_bit 64 n hz hx';obtain⟨hi,htab⟩:=Lib.deBruijn64_at _ hk;have hcell:=hT _ hi;rw[htab]at hcell;exact ai7 n _ _ w (by simp;omega) (ai8 n _ (by omega) hz hlow) hi hk hcell
theorem YB(x:Int)(h0:0<=x)(hx:x<18446744073709551616)(w:World)(hT:mZ w):
 Calls prog 96 #[.int .u64 x] w fun e w'=>e=.returned (Im (Hx.tz x))/\w'=w:=by
 go_enter func96,ntmps96;go_wp2_with (go_at_call 151;refine(ai6 _ ?_ ?_ _ hT).mono ?_;(first|assumption|omega);(first|assumption|omega);rintro e w' ⟨rfl,rfl⟩);go_ret;exact⟨rfl,rfl⟩
end
section
open Go.RowKit
open Hx (Rd Pk Vw)
def vG(w:World)(p:Value):Option Rd->Prop
 |none=>p=.pointer none
 |some r=>∃b o,p=Pt b o/\w.cell? (Ad b o)=some (Im r.id)/\w.cell? (Ad b (o+1))=some (Im r.DF)/\
   w.cell? (Ad b (o+2))=some (Im r.cO)/\w.cell? (Ad b (o+3))=some (Im r.out)/\w.cell? (Ad b (o+4))=some (.bool r.nX)
def vF(w:World)(p:Value):Option Pk->Prop
 |none=>p=.pointer none
 |some r=>∃b o,p=Pt b o/\w.cell? (Ad b o)=some (Im r.seq)/\w.cell? (Ad b (o+1))=some (Im r.size)/\
   w.cell? (Ad b (o+2))=some (Im r.on)
def Ce(B:Nat)(w:World)(a:Option Addr)(rs:List Rd):Prop:=
 ∀i r,rs[i]? =some r->∃b o,a=some (Ad b o)/\b<B/\vG w (Pt b (o+i * 5)) (some r)
def BX(B:Nat)(w:World)(a:Option Addr)(rs:List Pk):Prop:=
 ∀i r,rs[i]? =some r->∃b o,a=some (Ad b o)/\b<B/\vF w (Pt b (o+i * 3)) (some r)
structure vJ(B:Nat)(w:World)(M:Nat)(v:Vw):Prop where
 ah:∃a cap,w.cell? (Ad M 0)=some (.slice a v.ah.length cap)/\Ce B w a v.ah
 aG:∃a cap,w.cell? (Ad M 1)=some (.slice a v.aG.length cap)/\BX B w a v.aG
 aJ:∃a cap,w.cell? (Ad M 2)=some (.slice a v.aJ.length cap)/\BX B w a v.aJ
 Le:v.ah.length<=8
 Ld:v.aG.length<=16
 Lc:v.aJ.length<=16
 ids:∀r∈v.ah,0<=r.id/\r.id<8
 DC:v.yL
theorem ag0(M:Nat)(i:Int)(b off len cap:Nat)(w:World)(h0:0<=i)(h1:i<len)
 (hr:w.cell? (Ad M 0)=some (.slice (some (Ad b off)) len cap)):
 Calls prog 97 #[Pt M 0,Im i] w fun e w'=>e=.returned (Pt b (off+i.toNat * 5))/\w'=w:=by
 have h2:decide (i<0)=false:=by simpa using h0
 go_enter func97,ntmps97;go_wp2;go_ret;exact⟨rfl,rfl⟩
theorem Xv(M:Nat)(i:Int)(a:Option Addr)(len cap:Nat)(w:World)(h:i<0\/(len:Int)<=i)
 (hr:w.cell? (Ad M 0)=some (.slice a len cap)):
 Calls prog 97 #[Pt M 0,Im i] w fun e w'=>e=.returned (.pointer none)/\w'=w:=by
 rcases h with h|h
 .have h2:decide (i<0)=true:=by simpa using h
  go_enter func97,ntmps97;go_wp2;go_ret;exact⟨rfl,rfl⟩
 .have h2:decide (i<0)=false:=by simp;omega
  go_enter func97,ntmps97;go_wp2;go_ret;exact⟨rfl,rfl⟩
theorem LW(B:Nat)(M:Nat)(i:Int)(v:Vw)(w:World)(hv:vJ B w M v):
 Calls prog 97 #[Pt M 0,Im i] w fun e w'=>(∃p,e=.returned p/\vG w p (v.aK i))/\w'=w:=by
 obtain⟨a,cap,hc,hr⟩:=hv.ah;by_cases hi:i<0
 .refine(Xv M i a _ cap w (Or.inl hi) hc).mono ?_;rintro e w' ⟨rfl,rfl⟩;exact⟨⟨_,rfl,by simp[Hx.Vw.aK,hi,vG]⟩,rfl⟩
 .by_cases hl:i.toNat<v.ah.length
  .obtain⟨b,o,rfl,hb,hp⟩:=hr i.toNat v.ah[i.toNat] (by simp[hl]);refine(ag0 M i b o _ cap w (by omega) (by omega) hc).mono ?_;rintro e w' ⟨rfl,rfl⟩;exact⟨⟨_,rfl,by simpa [Hx.Vw.aK,hi,hl]using hp⟩,rfl⟩
  .refine(Xv M i a _ cap w (Or.inr (by omega)) hc).mono ?_;rintro e w' ⟨rfl,rfl⟩;exact⟨⟨_,rfl,by simp[Hx.Vw.aK,hi,Nat.not_lt.1 hl,vG]⟩,rfl⟩
theorem abz(M:Nat)(i:Int)(b off len cap:Nat)(w:World)(h0:0<=i)(h1:i<len)(h16:i<16)
 (hr:w.cell? (Ad M 1)=some (.slice (some (Ad b off)) len cap)):
 Calls prog 98 #[Pt M 0,Im i] w fun e w'=>e=.returned (Pt b (off+i.toNat * 3))/\w'=w:=by
 have h2:decide (i<0)=false:=by simpa using h0
 have h3:decide (16<=i)=false:=by simpa using h16
 go_enter func98,ntmps98;go_wp2;go_ret;exact⟨rfl,rfl⟩
theorem TV(M:Nat)(i:Int)(a:Option Addr)(len cap:Nat)(w:World)(h:i<0\/(len:Int)<=i)(h16:i<16)
 (hr:w.cell? (Ad M 1)=some (.slice a len cap)):
 Calls prog 98 #[Pt M 0,Im i] w fun e w'=>e=.returned (.pointer none)/\w'=w:=by
 have h3:decide (16<=i)=false:=by simpa using h16
 rcases h with h|h
 .have h2:decide (i<0)=true:=by simpa using h
  go_enter func98,ntmps98;go_wp2;go_ret;exact⟨rfl,rfl⟩
 .have h2:decide (i<0)=false:=by simp;omega
  go_enter func98,ntmps98;go_wp2;go_ret;exact⟨rfl,rfl⟩
theorem ZQ(M:Nat)(i:Int)(b off len cap:Nat)(af:Option Addr)(lf cf:Nat)(w:World)(h0:16<=i)(h1:i-16<len)(hm:i<=9223372036854775807)
 (hf:w.cell? (Ad M 1)=some (.slice af lf cf))(hr:w.cell? (Ad M 2)=some (.slice (some (Ad b off)) len cap)):
 Calls prog 98 #[Pt M 0,Im i] w fun e w'=>e=.returned (Pt b (off+(i-16).toNat * 3))/\w'=w:=by
 have h2:decide (i-16<0)=false:=by simp;omega
 have h3:decide (16<=i)=true:=by simpa using h0
 go_enter func98,ntmps98;go_wp2;go_ret;exact⟨rfl,rfl⟩
theorem ZP(M:Nat)(i:Int)(a:Option Addr)(len cap:Nat)(af:Option Addr)(lf cf:Nat)(w:World)(h0:16<=i)(h:(len:Int)<=i-16)(hm:i<=9223372036854775807)
 (hf:w.cell? (Ad M 1)=some (.slice af lf cf))(hr:w.cell? (Ad M 2)=some (.slice a len cap)):
 Calls prog 98 #[Pt M 0,Im i] w fun e w'=>e=.returned (.pointer none)/\w'=w:=by
 have h2:decide (i-16<0)=false:=by simp;omega
 have h3:decide (16<=i)=true:=by simpa using h0
 go_enter func98,ntmps98;go_wp2;go_ret;exact⟨rfl,rfl⟩
theorem LJ(B:Nat)(M:Nat)(i:Int)(v:Vw)(w:World)(hv:vJ B w M v)(hm:i<=9223372036854775807):
 Calls prog 98 #[Pt M 0,Im i] w fun e w'=>(∃p,e=.returned p/\vF w p (v.pW i))/\w'=w:=by
 obtain⟨a,cap,hc,hr⟩:=hv.aG;obtain⟨a2,cap2,hc2,hr2⟩:=hv.aJ;by_cases h16:16<=i
 .by_cases hl:(i-16).toNat<v.aJ.length
  .obtain⟨b,o,rfl,hb,hp⟩:=hr2 (i-16).toNat v.aJ[(i-16).toNat] (by simp[hl]);refine(ZQ M i b o _ cap2 a _ cap w h16 (by omega) hm hc hc2).mono ?_;rintro e w' ⟨rfl,rfl⟩;exact⟨⟨_,rfl,by simpa [Hx.Vw.pW,h16,hl]using hp⟩,rfl⟩
  .refine(ZP M i a2 _ cap2 a _ cap w h16 (by omega) hm hc hc2).mono ?_;rintro e w' ⟨rfl,rfl⟩;exact⟨⟨_,rfl,by simp only[Hx.Vw.pW,if_pos h16,List.getElem?_eq_none (Nat.not_lt.1 hl)];rfl⟩,rfl⟩
 .by_cases hi:i<0
  .refine(TV M i a _ cap w (Or.inl hi) (by omega) hc).mono ?_;rintro e w' ⟨rfl,rfl⟩;exact⟨⟨_,rfl,by simp[Hx.Vw.pW,h16,hi,vF]⟩,rfl⟩
  .by_cases hl:i.toNat<v.aG.length
   .obtain⟨b,o,rfl,hb,hp⟩:=hr i.toNat v.aG[i.toNat] (by simp[hl]);refine(abz M i b o _ cap w (by omega) (by omega) (by omega) hc).mono ?_;rintro e w' ⟨rfl,rfl⟩;exact⟨⟨_,rfl,by simpa [Hx.Vw.pW,h16,hi,hl]using hp⟩,rfl⟩
   .refine(TV M i a _ cap w (Or.inr (by omega)) (by omega) hc).mono ?_;rintro e w' ⟨rfl,rfl⟩;exact⟨⟨_,rfl,by simp[Hx.Vw.pW,h16,hi,Nat.not_lt.1 hl,vF]⟩,rfl⟩
theorem Sv(B:Nat)(M:Nat)(l:Int)(v:Vw)(w:World)(hv:vJ B w M v):
 Calls prog 95 #[Pt M 0,Im l] w fun e w'=>e=.returned (Im (v.all l))/\w'=w:=by
 obtain⟨a1,c1,h1,-⟩:=hv.ah;obtain⟨a2,c2,h2,-⟩:=hv.aG;obtain⟨a3,c3,h3,-⟩:=hv.aJ;have m1:=hv.Le;have m2:=hv.Ld;have m3:=hv.Lc;clear hv;generalize hn1:v.ah.length=n1 at *;generalize hn2:v.aG.length=n2 at *;generalize hn3:v.aJ.length=n3 at *;have hall:v.all l=if l=0 then Hx.zF n1 else if l=1 then Hx.zF n2 else wrap64 (Hx.zF n3 * 65536):=by simp[Hx.Vw.all,hn1,hn2,hn3]
 rw[hall];clear hall hn1 hn2 hn3;go_enter func95,ntmps95;go_wp2;all_goals (go_ret;exact⟨tX (by simp_all [Hx.zF]),rfl⟩)
theorem Ol(x i:Int)(w:World)(h0:0<=i)(h1:i<8):
 Calls prog 94 #[Im x,Im i] w fun e w'=>e=.returned (.bool (Hx.Kr x i))/\w'=w:=by
 go_enter func94,ntmps94;go_wp2;go_ret;exact⟨rfl,rfl⟩
theorem ae3(o:Int)(p:Value)(r:Option Rd)(w:World)(hp:vG w p r):
 Calls prog 155 #[.int .u8 o,p] w fun e w'=>e=.returned (Im (Hx.Ip o r))/\w'=w:=by
 cases r with
 |none=>
  obtain rfl:=hp;go_enter func155,ntmps155;go_wp2;go_ret;exact⟨rfl,rfl⟩
 |some r=>
  obtain⟨b,off,rfl,h1,h2,h3,h4,h5⟩:=hp;go_enter func155,ntmps155;go_wp2_with (go_at_call 152;refine(MK _ _).mono ?_;rintro e w' ⟨rfl,rfl⟩);all_goals (go_ret;exact⟨tX (by simp_all [Hx.Ip]),rfl⟩)
theorem ae2(o:Int)(p:Value)(r:Option Pk)(w:World)(hp:vF w p r):
 Calls prog 156 #[.int .u8 o,p] w fun e w'=>e=.returned (Im (Hx.Io o r))/\w'=w:=by
 cases r with
 |none=>
  obtain rfl:=hp;go_enter func156,ntmps156;go_wp2;go_ret;exact⟨rfl,rfl⟩
 |some r=>
  obtain⟨b,off,rfl,h1,h2,h3⟩:=hp;go_enter func156,ntmps156;go_wp2;all_goals (go_ret;exact⟨tX (by simp_all [Hx.Io]),rfl⟩)
theorem adt(p q:Value)(pk:Option Pk)(rd:Option Rd)(w:World)(hp:vF w p pk)(hq:vG w q rd)(hid:∀r,rd=some r->0<=r.id/\r.id<8):
 Calls prog 157 #[p,q] w fun e w'=>e=.returned (.bool (Hx.Vl pk rd))/\∃n,w'=w.drewN n:=by
 cases pk with
 |none=>
  obtain rfl:=hp;cases rd with
  |none=>
   obtain rfl:=hq;go_enter func157,ntmps157;go_wp2_with fail;go_quiet (fail);go_wp2;go_ret;exact⟨rfl,_,rfl⟩
  |some r=>
   obtain⟨b,off,rfl,h1,h2,h3,h4,h5⟩:=hq;go_enter func157,ntmps157;go_wp2_with fail;go_quiet (fail);go_wp2;go_ret;exact⟨rfl,_,rfl⟩
 |some k=>
  obtain⟨b,off,rfl,h1,h2,h3⟩:=hp;cases rd with
  |none=>
   obtain rfl:=hq;go_enter func157,ntmps157;go_wp2_with fail;go_quiet (fail);go_wp2;go_ret;exact⟨rfl,_,rfl⟩
  |some r=>
   obtain⟨i0,i8⟩:=hid r rfl;obtain⟨b2,off2,rfl,q1,q2,q3,q4,q5⟩:=hq;clear hid;go_enter func157,ntmps157;go_wp2_with fail;go_quiet ((go_at_call 94;exact Calls.quiet_of_same (Ol _ _ _ i0 i8)));go_wp2;go_ret;exact⟨rfl,_,rfl⟩
theorem aej(x:Int)(h0:0<=x)(hx:x<18446744073709551616)(w:World)(hT:mZ w):
 Calls prog 154 #[.int .u64 x] w fun e w'=>e=.returned (Im (Hx.lowest x))/\w'=w:=by
 by_cases hz:x=0
 .subst hz;go_enter func154,ntmps154;go_wp2;go_ret;exact⟨rfl,rfl⟩
 .have hz':(x==0)=false:=by simpa using hz
  have HZ:Hid (¬x=0):=hz;clear hz;go_enter func154,ntmps154;go_wp2_with (go_at_call 96;refine(YB _ h0 hx _ hT).mono ?_;rintro e w' ⟨rfl,rfl⟩);go_ret;exact⟨tX (by have:=HZ.out;simp[Hx.lowest,this]),rfl⟩
theorem agZ{B:Nat}{w:World}{M:Nat}{v:Vw}(hv:vJ B w M v){i:Int}{r:Rd}(h:v.aK i=some r):0<=r.id/\r.id<8:=by
 refine hv.ids r ?_;simp only[Hx.Vw.aK]at h;split at h
 .cases h
 .exact List.mem_of_getElem? h
theorem afA(B M:Nat)(o a b:Int)(v:Vw)(w:World)(hv:vJ B w M v)(hT:mZ w)(ha:a<=9223372036854775807):
 Calls prog 100 #[Pt M 0,.int .u8 o,Im a,Im b] w fun e w'=>e=.returned (Im (Hx.outcome v o a b))/\∃n,w'=w.drewN n:=by
 have HI:Hid (∀i r,v.aK i=some r->0<=r.id/\r.id<8):=fun i r h=>agZ hv h;have hu:=Hx.I4 a;have HU:Hid (0<=Hx.ug a/\Hx.ug a<18446744073709551616):=hu;clear hu;go_enter func100,ntmps100;go_wp2_with (first
  |(go_at_call 152;refine(MK _ _).mono ?_;rintro e w' ⟨rfl,rfl⟩)
  |(go_at_call 153;refine(afp _ _).mono ?_;rintro e w' ⟨rfl,rfl⟩)
  |(go_at_call 154;refine(aej _ HU.out.1 HU.out.2 _ hT).mono ?_;rintro e w' ⟨rfl,rfl⟩)
  |(go_at_call 97;refine(LW B M _ v _ hv).mono ?_;rintro e w' ⟨⟨p,rfl,hp⟩,rfl⟩)
  |(go_at_call 98;refine(LJ B M _ v _ hv ha).mono ?_;rintro e w' ⟨⟨q,rfl,hq⟩,rfl⟩)
  |(go_at_call 155;refine(ae3 _ _ _ _ hp).mono ?_;rintro e w' ⟨rfl,rfl⟩)
  |(go_at_call 156;refine(ae2 _ _ _ _ hq).mono ?_;rintro e w' ⟨rfl,rfl⟩)
  |(go_at_call 157;refine(adt _ _ _ _ _ hq hp (HI.out _)).mono ?_;rintro e w1 ⟨rfl,n,rfl⟩)
  |(go_at_call 158;refine(afz _ _ _ _).mono ?_;rintro e w' ⟨rfl,rfl⟩))
 all_goals (go_ret;refine⟨tX ?_,?_⟩)
 all_goals (first|exact⟨0,rfl⟩|exact⟨_,rfl⟩|(clear hv hT HI HU;simp_all [Hx.outcome,Hx.ug]))
end
section
open Go.RowKit
open Hx (Rd Pk Vw St Mc aZ)
section
theorem vG.aN{B:Nat}{w w':World}{b o:Nat}{r:Rd}(hb:b<B)(hc:∀x:Addr,x.block<B->w'.cell? x=w.cell? x)
 (h:vG w (Pt b o) (some r)):vG w' (Pt b o) (some r):=by
 obtain⟨b',o',e,h1,h2,h3,h4,h5⟩:=h;obtain⟨rfl,rfl⟩:b=b'/\o=o':=by simpa using e
 exact⟨b,o,rfl,by rw[hc _ hb];exact h1,by rw[hc _ hb];exact h2,by rw[hc _ hb];exact h3,by rw[hc _ hb];exact h4,by rw[hc _ hb];exact h5⟩
theorem vF.aN{B:Nat}{w w':World}{b o:Nat}{r:Pk}(hb:b<B)(hc:∀x:Addr,x.block<B->w'.cell? x=w.cell? x)
 (h:vF w (Pt b o) (some r)):vF w' (Pt b o) (some r):=by
 obtain⟨b',o',e,h1,h2,h3⟩:=h;obtain⟨rfl,rfl⟩:b=b'/\o=o':=by simpa using e
 exact⟨b,o,rfl,by rw[hc _ hb];exact h1,by rw[hc _ hb];exact h2,by rw[hc _ hb];exact h3⟩
theorem vJ.aN{B:Nat}{w w':World}{M:Nat}{v:Vw}(h:vJ B w M v)(hc:∀x:Addr,x.block<B->w'.cell? x=w.cell? x)
 (hM:∀k,k<3->w'.cell? (Ad M k)=w.cell? (Ad M k)):vJ B w' M v:=by
 refine⟨?_,?_,?_,h.Le,h.Ld,h.Lc,h.ids,h.DC⟩
 .obtain⟨a,cap,h1,h2⟩:=h.ah;refine⟨a,cap,by rw[hM 0 (by omega)];exact h1,fun i r hr=>?_⟩;obtain⟨b,o,e,hb,hp⟩:=h2 i r hr;exact⟨b,o,e,hb,hp.aN hb hc⟩
 .obtain⟨a,cap,h1,h2⟩:=h.aG;refine⟨a,cap,by rw[hM 1 (by omega)];exact h1,fun i r hr=>?_⟩;obtain⟨b,o,e,hb,hp⟩:=h2 i r hr;exact⟨b,o,e,hb,hp.aN hb hc⟩
 .obtain⟨a,cap,h1,h2⟩:=h.aJ;refine⟨a,cap,by rw[hM 2 (by omega)];exact h1,fun i r hr=>?_⟩;obtain⟨b,o,e,hb,hp⟩:=h2 i r hr;exact⟨b,o,e,hb,hp.aN hb hc⟩
def kZ(l:List (Int×Int)):List Value:=l.flatMap fun p=>[Im p.1,Im p.2]
structure cu(B C:Nat)(w:World)(M SB:Nat)(v:Vw)(m:Mc):Prop where
 view:vJ B w M v
 bM:B<=M
 bS:B<=SB
 cM:M<C
 cS:SB<C
 ne:¬M=SB
 size:C<=w.heap.size
 aF:w.cell? (Ad M 3)=some (.slice (some (Ad SB 0)) m.aF.length m.aF.length)
 slot:∀k,k<m.aF.length->w.cell? (Ad SB k)=some (Im (m.aF.getD k 0))
 xK:∀k,k<m.aF.length->w.frozen? (Ad SB k)=false
 left:∀k,k<8->w.cell? (Ad M (4+k))=some (.int .u64 (m.left.getD k 0))
 EN:∀k,k<8->w.frozen? (Ad M (4+k))=false
 KT:m.left.length=8
 aY:∃va,w.cell? (Ad M 12)=some va/\w.ownsRow C 76 2 va m.aY.length (kZ m.aY)
 Eh:w.frozen? (Ad M 12)=false
 yM:∀k,aZ (m.aF.getD k 0)
 CZ:∀k,0<=m.left.getD k 0/\m.left.getD k 0<18446744073709551616
 aU:mZ w
 one:1<B
variable {B C:Nat}{w:World}{M SB:Nat}{v:Vw}{m:Mc}
theorem cu.grow(h:cu B C w M SB v m){w':World}(hg:w.grownBy w' none):cu B C w' M SB v m:=by
 have hs:=h.size;have b1:=h.bM;have c1:=h.cM;have c2:=h.cS;have hb:∀k,k<w.heap.size->w'.heap[k]? =w.heap[k]? :=fun k hk=>hg.block k hk (by simp);have hc:∀x:Addr,x.block<w.heap.size->w'.cell? x=w.cell? x:=fun x hx=>World.cell?_of_block (hb _ hx);have hf:∀x:Addr,x.block<w.heap.size->w'.frozen? x=w.frozen? x:=fun x hx=>World.frozen?_of_block (hb _ hx);refine⟨h.view.aN (fun x hx=>hc x (by omega)) (fun k _=>hc _ (by show M<_;omega)),h.bM,h.bS,h.cM,h.cS,h.ne,Nat.le_trans h.size hg.size,?_,?_,?_,?_,?_,h.KT,?_,?_,h.yM,h.CZ,?_,h.one⟩
 .rw[hc _ (by show M<_;omega)];exact h.aF
 .intro k hk;rw[hc _ (by show SB<_;omega)];exact h.slot k hk
 .intro k hk;rw[hf _ (by show SB<_;omega)];exact h.xK k hk
 .intro k hk;rw[hc _ (by show M<_;omega)];exact h.left k hk
 .intro k hk;rw[hf _ (by show M<_;omega)];exact h.EN k hk
 .obtain⟨va,h1,h2⟩:=h.aY;exact⟨va,by rw[hc _ (by show M<_;omega)];exact h1,h2.kept hg (by cases va.ownBlock<;>simp)⟩
 .rw[hf _ (by show M<_;omega)];exact h.Eh
 .intro j hj;have:=h.one;rw[hc _ (by show 1<_;omega)];exact h.aU j hj
theorem cu.alloc(h:cu B C w M SB v m)(o:Obj):cu B C (w.alloc o) M SB v m:=h.grow (World.grownBy_alloc w o none)
theorem cu.drewN(h:cu B C w M SB v m)(n:Nat):cu B C (w.drewN n) M SB v m:=
 h.grow ⟨rfl,rfl,rfl,Nat.le_refl _,fun _ _ _=>rfl⟩
theorem Uh(l:List Int)(k j:Nat)(x:Int)(hk:k<l.length):(l.set k x).getD j 0=if j=k then x else l.getD j 0:=by
 simp only[List.getD_eq_getElem?_getD,List.getElem?_set];by_cases h:k=j
 .subst h;simp[hk]
 .simp[h,Ne.symm h]
theorem pO(w:World)(a:Addr)(u:Value):w.grownBy (w.setCell a u) (some a.block):=
 ⟨rfl,rfl,rfl,by simp,fun k _ hk=>Below.heap_setCell _ _ _ _ (fun e=>hk (by rw[e]))⟩
theorem cu.put(h:cu B C w M SB v m){i:Nat}{x:Int}(hi:i<m.aF.length)(hx:aZ x):
 cu B C (w.setCell (Ad SB i) (Im x)) M SB v (m.put i x):=by
 have hne:=h.ne;have b1:=h.bM;have b2:=h.bS;have c2:=h.cS;have hs:=h.size;have ho:∀y:Addr,¬y.block=SB->(w.setCell (Ad SB i) (Im x)).cell? y=w.cell? y:=fun y hy=>World.cell?_setCell_other _ _ _ _ (fun e=>hy (by rw[<-e]));have hlen:(m.put i x).aF.length=m.aF.length:=by simp[Hx.Mc.put]
 have hget:∀j,(m.put i x).aF.getD j 0=if j=i then x else m.aF.getD j 0:=fun j=>by
  have:=Uh m.aF i j x hi;simpa [Hx.Mc.put]using this
 refine⟨h.view.aN (fun y hy=>ho y (by omega)) (fun k _=>ho _ hne),h.bM,h.bS,h.cM,h.cS,h.ne,by simpa using h.size,?_,?_,?_,?_,?_,h.KT,?_,?_,?_,h.CZ,?_,h.one⟩
 .rw[ho _ hne,hlen];exact h.aF
 .intro k hk;rw[hlen]at hk;rw[hget];by_cases e:k=i
  .subst e;rw[if_pos rfl];exact World.cell?_setCell_same _ _ _ (h.slot k hk)
  .rw[if_neg e,World.cell?_setCell_other _ _ _ _ (by intro h';cases h';exact e rfl)];exact h.slot k hk
 .intro k hk;rw[hlen]at hk;simpa using h.xK k hk
 .intro k hk;rw[ho _ hne];exact h.left k hk
 .intro k hk;simpa using h.EN k hk
 .obtain⟨va,h1,h2⟩:=h.aY;refine⟨va,by rw[ho _ hne];exact h1,h2.kept (pO w (Ad SB i) _) ?_⟩;cases hb:va.ownBlock with
  |none=>exact Or.inl rfl
  |some g=>
   right;have:=(h2.lt g hb).1;simp;omega
 .simpa using h.Eh
 .intro k;rw[hget];split
  .exact hx
  .exact h.yM k
 .intro j hj;have:=h.one;rw[ho _ (by show¬1=SB;omega)];exact h.aU j hj
theorem cu.pX(h:cu B C w M SB v m){i:Nat}{x:Int}(hi:i<8)(hx:0<=x/\x<18446744073709551616):
 cu B C (w.setCell (Ad M (4+i)) (.int .u64 x)) M SB v (m.pX i x):=by
 have hne:=h.ne;have b1:=h.bM;have b2:=h.bS;have c2:=h.cS;have hs:=h.size;have hl:=h.KT;have ho:∀y:Addr,¬y.block=M->(w.setCell (Ad M (4+i)) (.int .u64 x)).cell? y=w.cell? y:=fun y hy=>World.cell?_setCell_other _ _ _ _ (fun e=>hy (by rw[<-e]));have KD:∀k,¬k=4+i->(w.setCell (Ad M (4+i)) (.int .u64 x)).cell? (Ad M k)=w.cell? (Ad M k):=fun k hk=>World.cell?_setCell_other _ _ _ _ (by intro h';cases h';exact hk rfl);have hget:∀j,(m.pX i x).left.getD j 0=if j=i then x else m.left.getD j 0:=fun j=>by
  have:=Uh m.left i j x (by omega);simpa [Hx.Mc.pX]using this
 refine⟨h.view.aN (fun y hy=>ho y (by omega)) (fun k hk=>KD k (by omega)),h.bM,h.bS,h.cM,h.cS,h.ne,by simpa using h.size,?_,?_,?_,?_,?_,?_,?_,?_,h.yM,?_,?_,h.one⟩
 .rw[KD 3 (by omega)];exact h.aF
 .intro k hk;rw[ho _ (fun e=>hne e.symm)];exact h.slot k hk
 .intro k hk;simpa using h.xK k hk
 .intro k hk;rw[hget];by_cases e:k=i
  .subst e;rw[if_pos rfl];exact World.cell?_setCell_same _ _ _ (h.left k hk)
  .rw[if_neg e,KD _ (by omega)];exact h.left k hk
 .intro k hk;simpa using h.EN k hk
 .simp[Hx.Mc.pX,hl]
 .obtain⟨va,h1,h2⟩:=h.aY;have c1:=h.cM;refine⟨va,by rw[KD 12 (by omega)];exact h1,h2.kept (pO w (Ad M (4+i)) _) ?_⟩;cases hb:va.ownBlock with
  |none=>exact Or.inl rfl
  |some g=>
   right;have:=(h2.lt g hb).1;simp;omega
 .simpa using h.Eh
 .intro k;rw[hget];split
  .exact hx
  .exact h.CZ k
 .intro j hj;have:=h.one;rw[ho _ (by show¬1=M;omega)];exact h.aU j hj
def uD(w:World)(b o:Nat)(s:St):Prop:=
 w.cell? (Ad b o)=some (.int .u8 s.op)/\w.cell? (Ad b (o+1))=some (Im s.a)/\w.cell? (Ad b (o+2))=some (Im s.b)/\
 w.cell? (Ad b (o+3))=some (Im s.c)/\w.cell? (Ad b (o+4))=some (Im s.d)/\w.cell? (Ad b (o+5))=some (Im s.depth)/\
 w.cell? (Ad b (o+6))=some (Im s.to)
end
end
section
open Go
section
variable {P:Program}{ops:Array Oper}{md:Region.Mode}{C:World->Prop}
def uw(P:Program)(md:Region.Mode)(ops:Array Oper)(C:World->Prop)(n:Nat)(L:Array Bool->Act->Prop):Nat->Array Bool->Act->Prop
 |0,done,a=>L done a
 |f+1,done,a=>Region.ready md ops done≠[]/\∀i∈Region.ready md ops done,i<n/\qOp P ops C i (uw P md ops C n L f (done.setIfInBounds i true)) a
theorem uw.any{n g:Nat}{L:Array Bool->Act->Prop}{Q:Exit->Act->World->Prop}(hL:∀done a w,C w->L done a->wpAny P md ops Q g done a w):
 ∀(f:Nat)(done:Array Bool)(a:Act)(w:World),C w->uw P md ops C n L f done a->wpAny P md ops Q (f+g) done a w
 |0,done,a,w,hw,h=>by rw[Nat.zero_add];exact hL _ _ _ hw h
 |f+1,done,a,w,hw,h=>by
  have e:f+1+g=(f+g)+1:=by omega
  rw[e];exact⟨fun h0=>absurd h0 h.1,fun i hi=>wpOp_of_qOp hw (fun a' w' hw' h'=>uw.any hL f _ a' w' hw' h') (h.2 i hi).2⟩
theorem uw.first{n i:Nat}{oi:Oper}{v:Value}{L:Array Bool->Act->Prop}(hi:ops[i]? =some oi)(hsel:∀(j:Nat)(o:Oper) cs b,ops[j]? =some o->o.op≠.select cs b)
 (hs:Region.sinkB md ops n=true)(hc:Region.chainB md ops n=true)(hn:n<ops.size)(hin:i<n)
 (hend:∀done a,L done a->∀j∈Region.ready md ops done,n<=j):
 ∀(f:Nat)(done:Array Bool)(a:Act),HeadInv md ops n done->
  (∀j oj,ops[j]? =some oj->j≠i->done.getD j true=false->(∀e∈oj.after,Region.binds md e=true->e.on≠i)->oi.apart ops oj=true)->
  i∈Region.ready md ops done->YieldsIn P ops C oi v a->
  uw P md ops C n L f (done.setIfInBounds i true) (a.put oi.dst v)->uw P md ops C n L (f+1) done a:=by
 intro f;induction f with
 |zero=>
  intro done a inv _ hr hy H;have hun:=(mem_ready.1 hr).1;refine⟨fun h=>(by rw[h]at hr;cases hr),fun j hj=>?_⟩;have hjn:j<n:=Nat.lt_of_not_le fun h=>tail_waits hs hc hn inv _ i rfl hin hun j h hj;refine⟨hjn,?_⟩;by_cases hji:j=i
  .subst hji;exact hy.qOp hi H
  .exact absurd (hend _ _ H j (ready_mono hj hji)) (by omega)
 |succ f ih=>
  intro done a inv hfree hr hy H;have hun:=(mem_ready.1 hr).1;refine⟨fun h=>(by rw[h]at hr;cases hr),fun j hj=>?_⟩;have hjn:j<n:=Nat.lt_of_not_le fun h=>tail_waits hs hc hn inv _ i rfl hin hun j h hj;refine⟨hjn,?_⟩;by_cases hji:j=i
  .subst hji;exact hy.qOp hi H
  .obtain⟨hjun,oj,hoj,hall⟩:=mem_ready.1 hj;have hnot:∀e∈oj.after,Region.binds md e=true->e.on≠i:=fun e he hb heq=>by
    have h1:=hall e he hb;rw[heq,getD_both hun]at h1;cases h1
   have h2:=qOp_put hoj (hfree j oj hoj hji hjun hnot) (fun cs b=>hsel i oi cs b hi) (fun cs b=>hsel j oj cs b hoj) hy (H.2 j (ready_mono hj hji)).2;have hfree':∀k ok,ops[k]? =some ok->k≠i->(done.setIfInBounds j true).getD k true=false->
    (∀e∈ok.after,Region.binds md e=true->e.on≠i)->oi.apart ops ok=true:=fun k ok hk hki hu hno=>by
    refine hfree k ok hk hki ?_ hno;by_cases hjk:j=k
    .subst hjk;exact hjun
    .rw[getD_set_ne true hjk]at hu;exact hu
   refine qOp_mono (fun a' h3=>ih (done.setIfInBounds j true) a' (inv.set hj hjn) hfree' (ready_mono hr (Ne.symm hji)) h3.1 ?_) h2;rw[Array.setIfInBounds_comm _ _ hji];exact h3.2
theorem uw.lex{n g:Nat}{Lq:Act->Prop}(hsel:Region.noSelect ops=true)(hs:Region.sinkB md ops n=true)(hc:Region.chainB md ops n=true)(hn:n<ops.size):
 ∀(l:List Oper)(k:Nat)(done:Array Bool)(a:Act),(∀j,j<l.length->l[j]? =ops[k+j]?)->k+l.length=n->HeadInv md ops n done->
 Region.lexHead md ops g l.length k done=true->wpQuiet P ops C Lq l a->
 uw P md ops C n (fun done' a'=>Region.seqB md ops g n done'=true/\Lq a') l.length done a
 |[],k,done,a,_,hk,_,hB,h=>by
  obtain rfl:k=n:=by simpa using hk
  exact⟨by simpa [Region.lexHead]using hB,h⟩
 |o::l,k,done,a,hl,hk,inv,hB,h=>by
  have h0:ops[k]? =some o:=by simpa using (hl 0 (by simp)).symm
  simp only[List.length_cons,Region.lexHead,Bool.and_eq_true]at hB;obtain⟨⟨hr,hf⟩,hB'⟩:=hB;have hkn:k<n:=by simp only[List.length_cons]at hk;omega
  have hr':k∈Region.ready md ops done:=by simpa using hr
  have hst:qOp P ops C k (wpQuiet P ops C Lq l) a:=by unfold qOp;simp only[h0];exact h
  obtain⟨v,hy,hK⟩:=yieldsIn_of_qOp h0 hst;exact uw.first h0 (Region.noSelect_spec hsel) hs hc hn hkn (fun done' a' hL=>seqB_ready hL.1) l.length done a inv (Region.free_spec h0 hf) hr' hy
   (uw.lex hsel hs hc hn l (k+1) _ _ (fun j hj=>by have:=hl (j+1) (by simp;omega);simpa [Nat.add_assoc,Nat.add_comm 1 j]using this) (by simp only[List.length_cons]at hk;omega) (inv.set hr' hkn) hB' hK)
theorem Q7{id:Nat}{Q:Exit->Act->World->Prop}{a:Act}{w:World}{l:List Oper}(n:Nat)(hm:P.follows .mixedOrders=true)(hB:Region.lexTailB .any l.toArray n=true)(hC:C w.drew)
 (h:wpQuiet P l.toArray C (fun a'=>∀w',C w'->wpList P l.toArray Q (l.drop n) a' w') (l.take n) a):(Code.region id l.toArray true).wp P Q a w:=by
 simp only[Region.lexTailB,Bool.and_eq_true,decide_eq_true_eq]at hB;obtain⟨⟨⟨⟨hsel,hn⟩,hs⟩,hc⟩,hlex⟩:=hB;have hn':n<l.length:=by simpa using hn
 have htl:(l.take n).length=n:=by simp;omega
 have hdl:(l.drop n).length=l.toArray.size-n:=by simp
 have inv0:HeadInv .any l.toArray n (Array.replicate l.toArray.size false):=
  ⟨by simp,fun j oj _ hl=>(by rw[getD_replicate_false]at hl;cases hl),fun t _ ht=>getD_in (by simpa using ht) (getD_replicate_false _ _)⟩
 have H:=uw.lex (P:=P) (C:=C) (md:=.any) (g:=l.toArray.size-n) hsel hs hc hn (l.take n) 0 _ a (fun j hj=>by
  have hj':j<n:=by rw[htl]at hj;exact hj
  simp[hj']) (by simpa using htl) inv0 (by rw[htl];exact hlex) h
 refine wp_region_any hm ?_;have:=uw.any (Q:=Q) (g:=l.toArray.size-n) (fun done a' w' hw' hL=>by
  have:=wpAny_of_seq (P:=P) (md:=.any) (Q':=Q) (l.drop n) n done a' w' (fun j=>by simp[List.getElem?_drop]) (by rw[hdl];exact hL.1) (hL.2 w' hw')
  rwa [hdl]at this) _ _ _ w.drew hC H
 rw[htl,show n+(l.toArray.size-n)=l.toArray.size by omega]at this;exact this
theorem fC{id:Nat}{Q:Exit->Act->World->Prop}{a:Act}{w:World}{l:List Oper}(n:Nat)(hm:P.follows .mixedOrders=true)(hB:Region.lexTailB .any l.toArray n=true)
 (h:wpQuiet P l.toArray (fun w'=>∃n,w'=w.drewN n) (fun a'=>∀w',(∃n,w'=w.drewN n)->wpList P l.toArray Q (l.drop n) a' w') (l.take n) a):(Code.region id l.toArray true).wp P Q a w:=
 Q7 n hm hB ⟨1,rfl⟩ h
theorem xR{id:Nat}{Q:Exit->Act->World->Prop}{a:Act}{w:World}{k:Nat}{l:List Oper}(n:Nat)(hm:P.follows .mixedOrders=true)(hB:Region.lexTailB .any l.toArray n=true)
 (h:wpQuiet P l.toArray (fun w'=>∃n,w'=w.drewN n) (fun a'=>∀w',(∃n,w'=w.drewN n)->wpList P l.toArray Q (l.drop n) a' w') (l.take n) a):(Code.region id l.toArray true).wp P Q a (w.drewN k):=
 Q7 n hm hB ⟨k+1,rfl⟩ h
end
end
end Go.Proofs.YthllhabjfchgiaaGreatDoor
