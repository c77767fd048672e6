import Derived.Test.YthllhabjfchgiaaGreatDoorHk18
import Derived.Laws.BytesArg
set_option maxRecDepth 100000
set_option maxHeartbeats 8000000
set_option linter.unusedSimpArgs false
namespace Go.Proofs.YthllhabjfchgiaaGreatDoor
open _root_.Go.Proofs.Tryz
section
abbrev aZ:=@Go.ByteArray.toList_eq
abbrev fP:=@Go.RowKit.Below.heap_alloc
end
namespace Hx
open Go.RowKit
structure Ps where
 k:Tk
 dp:Int
 en:Int
 ea:Int
def Fj(k:Tk):Tk:=⟨0,⟨#[]⟩,k.at'⟩
def Ps.fail(p:Ps):Ps:=⟨Fj p.k,p.dp,if p.en=0 then 1 else p.en,if p.en=0 then p.k.at' else p.ea⟩
def Ps.is(p:Ps)(t:List UInt8):Bool:=p.k.text.data.toList==t
def Ps.next(s:ji)(p:Ps):Ps:={p with k:=kF s p.k}
def Ps.expect(s:ji)(t:List UInt8)(p:Ps):Ps:=if p.is t then p.next s else p.fail
def Ps.FB(p:Ps):Ps:={p with dp:=wrap64 (p.dp+1)}
def Ps.Pq(p:Ps):Ps:={p with dp:=wrap64 (p.dp-1)}
def Ps.jZ(s:ji)(t:List UInt8)(p:Ps):Ps:=if p.dp=20 then p.fail else (p.expect s t).FB
def Ps.close(s:ji)(t:List UInt8)(p:Ps):Ps:=(p.expect s t).Pq
structure Wd where
 text:ji
 at':Int
def Ps.name(s:ji)(p:Ps):Wd×Ps:=if p.k.kind=2 then (⟨p.k.text,p.k.at'⟩,p.next s)else (⟨⟨#[]⟩,0⟩,p.fail)
structure ZB(k:Tk):Prop where
 number:k.kind=3->1<=k.text.size/\k.text.size<=18/\∀b∈k.text.data.toList,mZ b.toNat=true
 register:k.kind=4->∃x:UInt8,k.text.data.toList=[82,x]/\48<=x.toNat/\x.toNat<=55
 name:k.kind=2->1<=k.text.size
theorem aa2(s:ji)(k n:Nat):(s.extract k (k+n)).data.toList=(s.data.toList.drop k).take n:=by
 rw[ByteArray.data_extract,Array.toList_extract,List.extract_eq_take_drop]
 congr 1
 omega
theorem atp(p:Int->Bool)(l:List UInt8):∀b∈l.take (span p l),p b.toNat=true:=by
 intro b hb;have h:l.take (span p l)=l.takeWhile λc=>p c.toNat:=((List.prefix_iff_eq_take.1 (List.takeWhile_prefix _)).symm);rw[h]at hb;exact List.all_eq_true.1 (List.all_takeWhile (l:=l) (p:=λc=>p c.toNat)) b hb
theorem afC(s:ji)(i:Nat)(hi:i<=s.size):ZB (scan s i):=by
 have h1:=WQ xX (s.data.toList.drop i);have hl:(s.data.toList.drop i).length=s.size-i:=by rw[fA,eX];rfl
 rw[hl]at h1;unfold scan;generalize span xX (s.data.toList.drop i)=n at *;unfold EG;split
 .exact⟨λh=>jl h (by simp),λh=>jl h (by simp),λh=>jl h (by simp)⟩
 rename_i hne;have hz:(s.extract (i+n) s.size).size=s.size-(i+n):=by rw[iq];omega
 have hL:(s.extract (i+n) s.size).data.toList=s.data.toList.drop (i+n):=by
  have:=aa2 s (i+n) (s.size-(i+n));rw[show i+n+(s.size-(i+n))=s.size by omega]at this;rw[this,eU];rw[fA,eX];exact aj _
 obtain⟨b1,b2⟩:=SI (s.extract (i+n) s.size) (by omega);rw[hz]at b2;have hT:∀m:Nat,(m:Int)=(tV (s.extract (i+n) s.size)).2->(s.extract (i+n) (i+n+(tV (s.extract (i+n) s.size)).2.toNat)).data.toList=(s.extract (i+n) s.size).data.toList.take m:=by
  intro m hm;rw[hL,<-hm];exact aa2 s (i+n) m
 have hS:(s.extract (i+n) (i+n+(tV (s.extract (i+n) s.size)).2.toNat)).size=(tV (s.extract (i+n) s.size)).2.toNat:=by rw[iq];omega
 generalize s.extract (i+n) s.size=t at *;have ht1:1<=t.size:=by omega
 generalize s.extract (i+n) (i+n+(tV t).2.toNat)=u at *;clear hL h1 hl;unfold tV Lj at *;constructor
 .intro h3;simp only at h3⊢;split at h3
  .unfold BK DL at h3;split at h3
   .cases h3
   .split at h3<;>cases h3
  split at h3
  .rename_i hd hdg;rw[jg hd,jh hdg]at hT hS;unfold BJ numberOf at *;split at h3
   .cases h3
   .rename_i h18;rw[jg h18]at hT hS;have e:=hT (1+span mZ (t.data.toList.drop 1)) rfl;refine⟨by rw[hS];simp only;omega,by rw[hS];simp only;omega,?_⟩;rw[e];intro b hb;cases hl:t.data.toList with
    |nil=>rw[hl]at hb;simp at hb
    |cons a r=>
     rw[hl]at hb hdg;rw[Nat.add_comm,aC]at hb;rcases dh.1 hb with rfl|hb
     .exact hdg
     .exact atp mZ r b (by simpa using hb)
  split at h3
  .unfold zH at h3;repeat' split at h3
   all_goals cases h3
  .unfold Aj at h3;repeat' split at h3
   all_goals cases h3
 .intro h4;simp only at h4⊢;split at h4
  .unfold BK DL at h4;split at h4
   .cases h4
   .split at h4<;>cases h4
  split at h4
  .unfold BJ numberOf at h4;split at h4<;>cases h4
  split at h4
  .rename_i hd hdg hcap;rw[jg hd,jg hdg,jh hcap]at hT;unfold zH at *;split at h4
   .rename_i MH;rw[jh MH]at hT;have e:=hT 2 rfl;rw[e];simp only[dD,decide_eq_true_eq,AB,beq_iff_eq]at MH;obtain⟨r1,⟨r2,r3⟩,r4⟩:=MH;have hlen:t.data.toList.length=t.size:=by rw[eX];rfl
    match hl:t.data.toList,hlen with
    |[],hlen=>simp at hlen;omega
    |[_],hlen=>simp at hlen;omega
    |a::b::r,_=>
     rw[hl]at r2 r3 r4;simp only[iR,iT]at r2 r3 r4;refine⟨b,?_,by omega,by omega⟩;have h82:(82:UInt8).toNat=82:=rfl;have ha:a=82:=UInt8.toNat_inj.1 (by omega);rw[ha]
     rfl
   .repeat' split at h4
    all_goals cases h4
  .unfold Aj at h4;repeat' split at h4
   all_goals cases h4
 .intro h2;simp only at h2⊢;rw[hS];split at h2
  .rename_i hd;rw[jh hd];unfold BK DL at *;split at h2
   .cases h2
   .split at h2
    .cases h2
    .rename_i n1 n2;rw[jg n1,jg n2];simp only;omega
  split at h2
  .unfold BJ numberOf at h2;split at h2<;>cases h2
  split at h2
  .unfold zH at h2;repeat' split at h2
   all_goals cases h2
  .unfold Aj at h2;repeat' split at h2
   all_goals cases h2
structure Ps.Ok(s:ji)(p:Ps):Prop where
 tok:KZ s p.k
 dp:jJ p.dp
 kinds:ZB p.k
theorem aaP:(⟨#[]⟩:ji).size=0:=rfl
theorem WG(s:ji)(i:Nat)(hi:i<=s.size):KZ s (scan s i)/\(i:Int)<=(scan s i).at':=by
 have h1:=WQ xX (s.data.toList.drop i);have hl:(s.data.toList.drop i).length=s.size-i:=by rw[fA,eX];rfl
 rw[hl]at h1;unfold scan;generalize span xX (s.data.toList.drop i)=n at *;unfold EG;split
 .rename_i h;exact⟨⟨by simp only;omega,by simp only[aaP];omega⟩,by simp only;omega⟩
 .rename_i h;have hz:(s.extract (i+n) s.size).size=s.size-(i+n):=by rw[iq];omega
  obtain⟨b1,b2⟩:=SI (s.extract (i+n) s.size) (by omega);rw[hz]at b2;refine⟨⟨by simp only;omega,?_⟩,by simp only;omega⟩;simp only[iq];omega
theorem Ps.Ok.next{s:ji}{p:Ps}(h:p.Ok s):(p.next s).Ok s:=⟨(WG s _ h.tok.bd).1,h.dp,afC s _ h.tok.bd⟩
theorem Ps.Ok.fail{s:ji}{p:Ps}(h:p.Ok s):p.fail.Ok s:=⟨⟨h.tok.yR,by have:=h.tok.bd;simp only[Ps.fail,Fj,aaP];omega⟩,h.dp,⟨λh=>jl h (by simp[Ps.fail,Fj]),λh=>jl h (by simp[Ps.fail,Fj]),λh=>jl h (by simp[Ps.fail,Fj])⟩⟩
theorem Ps.Ok.expect{s:ji}{p:Ps}(h:p.Ok s)(t:List UInt8):(p.expect s t).Ok s:=by
 unfold Ps.expect;split
 .exact h.next
 .exact h.fail
theorem Uy(n:Int):jJ (wrap64 n):=by unfold jJ wrap64;omega
theorem Ps.Ok.jZ{s:ji}{p:Ps}(h:p.Ok s)(t:List UInt8):(p.jZ s t).Ok s:=by
 unfold Ps.jZ;split
 .exact h.fail
 .exact⟨(h.expect t).tok,Uy _,(h.expect t).kinds⟩
theorem Ps.Ok.close{s:ji}{p:Ps}(h:p.Ok s)(t:List UInt8):(p.close s t).Ok s:=⟨(h.expect t).tok,Uy _,(h.expect t).kinds⟩
theorem Ps.Ok.name{s:ji}{p:Ps}(h:p.Ok s):(p.name s).2.Ok s:=by
 unfold Ps.name;split
 .exact h.next
 .exact h.fail
end Hx
section
open Go.RowKit
open Hx (Tk Ps Wd Fj)
attribute [local go_sem ↓] Go.wp_at_zero Go.wp_at_succ
attribute [local go_sem] kP
section
def jQ(w:jk)(P:Nat)(s:ji)(p:Ps):Prop:=kG w P s p.k p.dp p.en p.ea
def qO(P:Nat)(s:ji)(w:jk)(v:jm)(p:Ps)(e:Ending)(w':jk):Prop:=e=.returned v/\jQ w' P s p/\w.grownBy w' (some P)
variable {w:jk}{P:Nat}{s:ji}{p:Ps}
theorem jQ.lt(h:jQ w P s p):P<w.heap.size:=kG.lt h
theorem jQ.grow(h:jQ w P s p){w':jk}(hg:w.grownBy w' none):jQ w' P s p:=kG.grow h hg
theorem Eh(h:jQ w P s p):Calls prog 142 #[Pt P 0] w (qO P s w (.tuple #[]) p.fail):=by
 obtain⟨k,dp,en,ea⟩:=p;have h:=h;have HH:=jA h;have c1:=h.c1;have c2:=h.c2;have c3:=h.c3;have c5:=h.c5;have c6:=h.c6;have ff:=h.fr;have Il:∀(w1:jk)(en' Ed:Int),kG w1 P s k dp en' Ed->w.grownBy w1 (some P)->kG (((w1.setCell (Ad P 1) (Im 0)).setCell (Ad P 2) (.string ⟨#[]⟩)).setCell (Ad P 3) (Im k.at')) P s (Fj k) dp en' Ed/\w.grownBy (((w1.setCell (Ad P 1) (Im 0)).setCell (Ad P 2) (.string ⟨#[]⟩)).setCell (Ad P 3) (Im k.at')) (some P):=λw1 en' Ed h1 hg=>by
  have a1:=h1.set 1 (Im 0) ⟨0,k.text,k.at'⟩ dp en' Ed (by omega) rfl rfl rfl rfl rfl rfl;have a2:=a1.set 2 (.string ⟨#[]⟩) ⟨0,⟨#[]⟩,k.at'⟩ dp en' Ed (by omega) rfl rfl rfl rfl rfl rfl;have a3:=a2.set 3 (Im k.at') ⟨0,⟨#[]⟩,k.at'⟩ dp en' Ed (by omega) rfl rfl rfl rfl rfl rfl;exact⟨a3,Dk (Dk (Dk hg _ _) _ _) _ _⟩
 have HS:=jA Il;clear Il h;by_cases he:en=0
 .subst he;go_enter func142,ntmps142;go_wp2;go_end0;have a1:=HH.out.set 5 (Im 1) k dp 1 ea (by omega) rfl rfl rfl rfl rfl rfl;have a2:=a1.set 6 (Im k.at') k dp 1 k.at' (by omega) rfl rfl rfl rfl rfl rfl;exact⟨rfl,HS.out _ _ _ a2 (Dk (Dk (aN w (some P)) _ _) _ _)⟩
 .have b5:(en==0)=false:=by simp[he]
  have e1:(⟨k,dp,en,ea⟩:Ps).fail=⟨Fj k,dp,en,ea⟩:=by simp[Hx.Ps.fail,he]
  rw[e1];clear he e1;go_enter func142,ntmps142;go_wp2;go_end0;exact⟨rfl,HS.out _ _ _ HH.out (aN w (some P))⟩
theorem Ho(h:jQ w P s p)(l:List UInt8):Calls prog 242 #[Pt P 0,.string ⟨l.toArray⟩] w λe w'=>e=.returned (.bool (p.is l))/\w'=w:=
 amu h l _ (by rw[aZ];rfl)
theorem xw(h:jQ w P s p)(ok:p.Ok s)(hs:s.size<=4000):Calls prog 236 #[Pt P 0] w (qO P s w (xJ p.k) (p.next s)):=Vq h ok.tok hs
theorem Ef(h:jQ w P s p)(ok:p.Ok s)(hs:s.size<=4000)(l:List UInt8):
 Calls prog 239 #[Pt P 0,.string ⟨l.toArray⟩] w (qO P s w (.tuple #[]) (p.expect s l)):=by
 have HI:=jA (Ho h l);have HN:=jA (xw h ok hs);have HF:=jA (Eh h);have he:Hid (p.expect s l=if p.is l then p.next s else p.fail):=rfl;generalize p.expect s l=q at *;generalize p.fail=pf at *;generalize p.next s=pn at *;generalize p.is l=b at *;generalize ByteArray.mk l.toArray=t at *;clear h ok hs;cases b with
 |true=>
  have hq:q=pn:=by simpa using he.out
  subst hq;clear he HF;go_enter func239,ntmps239;go_wp2_with fail;refine HI.out.mono ?_;rintro e w1 ⟨rfl,rfl⟩;go_wp2_with fail;refine HN.out.mono ?_;rintro e w2 ⟨rfl,h1,h2⟩;have HQ:=jA (jd h1 h2);clear h1 h2 HN HI;go_wp2_with fail;go_end0;exact⟨rfl,HQ.out⟩
 |false=>
  have hq:q=pf:=by simpa using he.out
  subst hq;clear he HN;go_enter func239,ntmps239;go_wp2_with fail;refine HI.out.mono ?_;rintro e w1 ⟨rfl,rfl⟩;go_wp2_with fail;refine HF.out.mono ?_;rintro e w2 ⟨rfl,h1,h2⟩;have HQ:=jA (jd h1 h2);clear h1 h2 HF HI;go_wp2_with fail;go_end0;exact⟨rfl,HQ.out⟩
theorem Ny(h:jQ w P s p)(ok:p.Ok s)(hs:s.size<=4000)(l:List UInt8):
 Calls prog 237 #[Pt P 0,.string ⟨l.toArray⟩] w (qO P s w (.tuple #[]) (p.jZ s l)):=by
 have c4:=kG.c4 h;have HN:=jA (Ef h ok hs l);have HF:=jA (Eh h);have hdp:(p.expect s l).dp=p.dp:=by unfold Hx.Ps.expect;split<;>rfl
 have he:Hid (p.jZ s l=if p.dp=20 then p.fail else (p.expect s l).FB):=rfl;generalize p.jZ s l=q at *;generalize p.fail=pf at *;generalize p.expect s l=pn at *;generalize p.dp=dp at *;generalize ByteArray.mk l.toArray=t at *;clear h ok hs;by_cases hd:dp=20
 .have hq:q=pf:=by simpa [hd]using he.out
  subst hq hd;clear he HN hdp;go_enter func237,ntmps237;go_wp2_with fail;refine HF.out.mono ?_;rintro e w2 ⟨rfl,h1,h2⟩;have HQ:=jA (jd h1 h2);clear h1 h2 HF;go_wp2_with fail;go_end0;exact⟨rfl,HQ.out⟩
 .have hq:q=pn.FB:=by simpa [hd]using he.out
  subst hq;have hb:(dp==20)=false:=by simp[hd]
  clear he HF hd;go_enter func237,ntmps237;go_wp2_with fail;refine HN.out.mono ?_;rintro e w2 ⟨rfl,h1,h2⟩;have d4:=kG.c4 h1;rw[hdp]at d4;have ff:=kG.fr h1;have HQ:Hid (jQ (w2.setCell (Ad P 4) (Im (wrap64 (dp+1)))) P s pn.FB/\w.grownBy (w2.setCell (Ad P 4) (Im (wrap64 (dp+1)))) (some P)):=by
   refine⟨?_,Dk h2 _ _⟩;have a1:=kG.set h1 4 (Im (wrap64 (dp+1))) pn.k (wrap64 (dp+1)) pn.en pn.ea (by omega) rfl rfl rfl rfl rfl rfl;unfold jQ Hx.Ps.FB;rw[hdp];exact a1
  clear h1 h2 HN hdp;go_wp2_with fail;go_end0;exact⟨rfl,HQ.out⟩
theorem LC(h:jQ w P s p)(ok:p.Ok s)(hs:s.size<=4000)(l:List UInt8):
 Calls prog 240 #[Pt P 0,.string ⟨l.toArray⟩] w (qO P s w (.tuple #[]) (p.close s l)):=by
 have HN:=jA (Ef h ok hs l);have he:p.close s l=(p.expect s l).Pq:=rfl;rw[he];clear he;generalize p.expect s l=pn at *;generalize ByteArray.mk l.toArray=t at *;clear h ok hs;go_enter func240,ntmps240;go_wp2_with fail;refine HN.out.mono ?_;rintro e w2 ⟨rfl,h1,h2⟩;have d4:=kG.c4 h1;have ff:=kG.fr h1;have HQ:Hid (jQ (w2.setCell (Ad P 4) (Im (wrap64 (pn.dp-1)))) P s pn.Pq/\w.grownBy (w2.setCell (Ad P 4) (Im (wrap64 (pn.dp-1)))) (some P)):=
  ⟨kG.set h1 4 (Im (wrap64 (pn.dp-1))) pn.k (wrap64 (pn.dp-1)) pn.en pn.ea (by omega) rfl rfl rfl rfl rfl rfl,Dk h2 _ _⟩
 clear h1 h2 HN;go_wp2_with fail;go_end0;exact⟨rfl,HQ.out⟩
def Ru(d:Wd):jm:=.agg #[.string d.text,Im d.at']
theorem adG(tmps:Array jm)(w:jk)(g:Nat)(d:Wd)(h2:tmps[2]? =some (Pt g 0))(h:w.heap[g]? =some (.cells #[.string d.text,Im d.at'] 316)):
 (results Tryz.f232 tmps).run prog w=.ok (Ru d) w:=by
 have q0:=jK 0 h rfl;have q1:=jK 1 h rfl;simp[results,Tryz.results232,go_sem,h2,q0,q1,Ru]
theorem Dy(w:jk)(g:Nat)(T:jo)(a0 a1 v0 v1:jm)(h:w.heap[g]? =some (.cells #[a0,a1] T)):
 ((w.setCell (Ad g 0) v0).setCell (Ad g 1) v1).heap[g]? =some (.cells #[v0,v1] T):=by
 have h0:(w.setCell (Ad g 0) v0).heap[g]? =some (.cells #[v0,a1] T):=aK _ _ _ _ _ _ h;exact aK _ _ _ _ _ _ h0
theorem jQ.Dz(h:jQ w P s p){g:Nat}(hne:P≠g)(j:Nat)(v:jm):jQ (w.setCell (Ad g j) v) P s p:=kG.pF h (nK w g j v) hne
theorem JH(h:jQ w P s p)(ok:p.Ok s)(hs:s.size<=4000):Calls prog 232 #[Pt P 0] w (qO P s w (Ru (p.name s).1) (p.name s).2):=by
 have hne:P≠w.heap.size:=by have:=h.lt;omega
 have ga:w.grownBy (w.alloc (.cells #[.string ⟨#[]⟩,Im 0] 316)) none:=ah w _ none;have ha:=h.grow ga;have hbox:(w.alloc (.cells #[.string ⟨#[]⟩,Im 0] 316)).heap[w.heap.size]? =some (.cells #[.string ⟨#[]⟩,Im 0] 316):=aY w _;have c1:=kG.c1 h;have HF:=jA (Eh ha);have HN:=jA (xw ha ok hs);have HB:Hid (∀w1,(w.alloc (.cells #[.string ⟨#[]⟩,Im 0] 316)).grownBy w1 (some P)->w1.heap[w.heap.size]? =some (.cells #[.string ⟨#[]⟩,Im 0] 316)/\w.grownBy w1 (some P)):=λw1 hg=>
  ⟨(hg.block _ (lY hbox) (by simpa using Ne.symm hne)).trans hbox,(ga.but _).trans hg⟩
 have hlt:=h.lt;have n1:=hne;have n2:¬w.heap.size=P:=λe=>hne e.symm;clear h ha hbox ga;by_cases hk:p.k.kind=2
 .have e1:p.name s=(⟨p.k.text,p.k.at'⟩,p.next s):=by unfold Hx.Ps.name;rw[jh hk]
  rw[e1];rw[hk]at c1;have hkv:xJ p.k=.agg #[Im p.k.kind,.string p.k.text,Im p.k.at']:=rfl;rw[hkv]at HN;clear e1 hkv HF hk;generalize p.k.kind=kk at *;generalize p.k.text=kt at *;generalize p.k.at'=ka at *;generalize p.next s=pn at *;go_enter func232,ntmps232;go_wp2_with fail;refine HN.out.mono ?_;rintro e w1 ⟨rfl,h1,h2⟩;obtain⟨b1,b2⟩:=HB.out w1 h2;have q0:=jK 0 b1 rfl;have q1:=jK 1 b1 rfl;have rf:=qV b1;have hs1:=lY b1;have n3:¬w.heap.size=w1.heap.size:=by omega
  have HQ:=jA (jd h1 (jd b2 b1));clear h1 h2 b1 b2 HN HB;go_wp2_with fail;obtain⟨x1,x2,x3⟩:=HQ.out;have y3:=Dy w1 w.heap.size _ _ _ (.string kt) (Im ka) x3;have y2:w.grownBy ((w1.setCell (Ad w.heap.size 0) (.string kt)).setCell (Ad w.heap.size 1) (Im ka)) (some P):=pK (pK x2 (aj _) _ _) (aj _) _ _;have y1:jQ ((w1.setCell (Ad w.heap.size 0) (.string kt)).setCell (Ad w.heap.size 1) (Im ka)) P s pn:=(x1.Dz hne _ _).Dz hne _ _;refine cu (adG _ _ w.heap.size ⟨kt,ka⟩ rfl ((fP _ _ _ (lY y3)).trans y3)) rfl ⟨rfl,y1.grow (ah _ _ none),y2.trans ((ah _ _ none).but _)⟩
 .have e1:p.name s=(⟨⟨#[]⟩,0⟩,p.fail):=by unfold Hx.Ps.name;rw[jg hk]
  rw[e1];have hb:(p.k.kind==2)=false:=by simp[hk]
  have hb2:(p.k.kind !=2)=true:=by simp[hk]
  clear e1 HN hk;generalize p.k.kind=kk at *;generalize p.fail=pn at *;go_enter func232,ntmps232;go_wp2_with fail;refine HF.out.mono ?_;rintro e w1 ⟨rfl,h1,h2⟩;obtain⟨b1,b2⟩:=HB.out w1 h2;have q0:=jK 0 b1 rfl;have q1:=jK 1 b1 rfl;have rf:=qV b1;have HQ:=jA (jd h1 (jd b2 b1));clear h1 h2 b1 b2 HF HB;go_wp2_with fail;obtain⟨x1,x2,x3⟩:=HQ.out;have y3:=Dy w1 w.heap.size _ _ _ (.string ⟨#[]⟩) (Im 0) x3;refine cu (adG _ _ w.heap.size ⟨⟨#[]⟩,0⟩ rfl y3) rfl ⟨rfl,(x1.Dz hne _ _).Dz hne _ _,pK (pK x2 (aj _) _ _) (aj _) _ _⟩
end
end
namespace Hx
def nO(u:List UInt8):Int:=if u==[124,124]then 0 else if u==[38,38]then 1 else if u==[61,61]then 2 else if u==[33,61]then 2 else if u==[60]then 3 else if u==[60,61]then 3 else if u==[62]then 3 else if u==[62,61]then 3 else if u==[43]then 4 else if u==[45]then 4 else if u==[42]then 5 else if u==[47]then 5 else if u==[37]then 5 else 6
def kE(u:List UInt8):Int×Int:=if u==[124,124]then (2,2)else if u==[38,38]then (2,2)else if u==[61,61]then (0,2)else if u==[33,61]then (0,2)else if u==[60]then (1,2)else if u==[60,61]then (1,2)else if u==[62]then (1,2)else if u==[62,61]then (1,2)else (1,1)
def pG(u:List UInt8):Int×Int:=if u==[105,100]then (3,1)else if u==[114,116,116]then (3,1)else if u==[99,119,110,100]then (3,1)else if u==[111,117,116]then (3,1)else if u==[108,111,115,115,121]then (3,2)else if u==[115,101,113]then (4,1)else if u==[115,105,122,101]then (4,1)else (0,0)
def xC(u:List UInt8):Int:=if u==[105,100]then 28 else if u==[114,116,116]then 29 else if u==[99,119,110,100]then 30 else if u==[111,117,116]then 31 else if u==[108,111,115,115,121]then 32 else if u==[115,101,113]then 33 else 34
def vC(u:List UInt8):Int:=if u==[43]then 10 else if u==[45]then 11 else if u==[42]then 12 else if u==[47]then 13 else if u==[37]then 14 else if u==[60]then 15 else if u==[60,61]then 16 else if u==[61,61]then 17 else if u==[33,61]then 18 else if u==[38,38]then 19 else 20
end Hx
section
open Go.RowKit Hx
theorem ac1(t:ji)(w:jk):Calls prog 266 #[.string t] w λe w'=>e=.returned (Im (nO t.data.toList))/\w'=w:=by
 rw[<-aZ];cases h0:(t.toList==[124,124])with
 |true=>
  go_enter func266,ntmps266;go_wp2;go_ret;exact⟨by simp[nO,h0],rfl⟩
 |false=>
  cases h1:(t.toList==[38,38])with
  |true=>
   go_enter func266,ntmps266;go_wp2;go_ret;exact⟨by simp[nO,h0,h1],rfl⟩
  |false=>
   cases h2:(t.toList==[61,61])with
   |true=>
    go_enter func266,ntmps266;go_wp2;go_ret;exact⟨by simp[nO,h0,h1,h2],rfl⟩
   |false=>
    cases h3:(t.toList==[33,61])with
    |true=>
     go_enter func266,ntmps266;go_wp2;go_ret;exact⟨by simp[nO,h0,h1,h2,h3],rfl⟩
    |false=>
     cases h4:(t.toList==[60])with
     |true=>
      go_enter func266,ntmps266;go_wp2;go_ret;exact⟨by simp[nO,h0,h1,h2,h3,h4],rfl⟩
     |false=>
      cases h5:(t.toList==[60,61])with
      |true=>
       go_enter func266,ntmps266;go_wp2;go_ret;exact⟨by simp[nO,h0,h1,h2,h3,h4,h5],rfl⟩
      |false=>
       cases h6:(t.toList==[62])with
       |true=>
        go_enter func266,ntmps266;go_wp2;go_ret;exact⟨by simp[nO,h0,h1,h2,h3,h4,h5,h6],rfl⟩
       |false=>
        cases h7:(t.toList==[62,61])with
        |true=>
         go_enter func266,ntmps266;go_wp2;go_ret;exact⟨by simp[nO,h0,h1,h2,h3,h4,h5,h6,h7],rfl⟩
        |false=>
         cases h8:(t.toList==[43])with
         |true=>
          go_enter func266,ntmps266;go_wp2;go_ret;exact⟨by simp[nO,h0,h1,h2,h3,h4,h5,h6,h7,h8],rfl⟩
         |false=>
          cases h9:(t.toList==[45])with
          |true=>
           go_enter func266,ntmps266;go_wp2;go_ret;exact⟨by simp[nO,h0,h1,h2,h3,h4,h5,h6,h7,h8,h9],rfl⟩
          |false=>
           cases h10:(t.toList==[42])with
           |true=>
            go_enter func266,ntmps266;go_wp2;go_ret;exact⟨by simp[nO,h0,h1,h2,h3,h4,h5,h6,h7,h8,h9,h10],rfl⟩
           |false=>
            cases h11:(t.toList==[47])with
            |true=>
             go_enter func266,ntmps266;go_wp2;go_ret;exact⟨by simp[nO,h0,h1,h2,h3,h4,h5,h6,h7,h8,h9,h10,h11],rfl⟩
            |false=>
             cases h12:(t.toList==[37])with
             |true=>
              go_enter func266,ntmps266;go_wp2;go_ret;exact⟨by simp[nO,h0,h1,h2,h3,h4,h5,h6,h7,h8,h9,h10,h11,h12],rfl⟩
             |false=>
              go_enter func266,ntmps266;go_wp2;go_ret;exact⟨by simp[nO,h0,h1,h2,h3,h4,h5,h6,h7,h8,h9,h10,h11,h12],rfl⟩
theorem afY(t:ji)(w:jk):Calls prog 267 #[.string t] w λe w'=>e=.returned (.tuple #[Im (kE t.data.toList).1,Im (kE t.data.toList).2])/\w'=w:=by
 rw[<-aZ];cases h0:(t.toList==[124,124])with
 |true=>
  go_enter func267,ntmps267;go_wp2;go_ret2;exact⟨by simp[kE,h0],rfl⟩
 |false=>
  cases h1:(t.toList==[38,38])with
  |true=>
   go_enter func267,ntmps267;go_wp2;go_ret2;exact⟨by simp[kE,h0,h1],rfl⟩
  |false=>
   cases h2:(t.toList==[61,61])with
   |true=>
    go_enter func267,ntmps267;go_wp2;go_ret2;exact⟨by simp[kE,h0,h1,h2],rfl⟩
   |false=>
    cases h3:(t.toList==[33,61])with
    |true=>
     go_enter func267,ntmps267;go_wp2;go_ret2;exact⟨by simp[kE,h0,h1,h2,h3],rfl⟩
    |false=>
     cases h4:(t.toList==[60])with
     |true=>
      go_enter func267,ntmps267;go_wp2;go_ret2;exact⟨by simp[kE,h0,h1,h2,h3,h4],rfl⟩
     |false=>
      cases h5:(t.toList==[60,61])with
      |true=>
       go_enter func267,ntmps267;go_wp2;go_ret2;exact⟨by simp[kE,h0,h1,h2,h3,h4,h5],rfl⟩
      |false=>
       cases h6:(t.toList==[62])with
       |true=>
        go_enter func267,ntmps267;go_wp2;go_ret2;exact⟨by simp[kE,h0,h1,h2,h3,h4,h5,h6],rfl⟩
       |false=>
        cases h7:(t.toList==[62,61])with
        |true=>
         go_enter func267,ntmps267;go_wp2;go_ret2;exact⟨by simp[kE,h0,h1,h2,h3,h4,h5,h6,h7],rfl⟩
        |false=>
         go_enter func267,ntmps267;go_wp2;go_ret2;exact⟨by simp[kE,h0,h1,h2,h3,h4,h5,h6,h7],rfl⟩
theorem aeN(t:ji)(w:jk):Calls prog 272 #[.string t] w λe w'=>e=.returned (.tuple #[Im (pG t.data.toList).1,Im (pG t.data.toList).2])/\w'=w:=by
 rw[<-aZ];cases h0:(t.toList==[105,100])with
 |true=>
  go_enter func272,ntmps272;go_wp2;go_ret2;exact⟨by simp[pG,h0],rfl⟩
 |false=>
  cases h1:(t.toList==[114,116,116])with
  |true=>
   go_enter func272,ntmps272;go_wp2;go_ret2;exact⟨by simp[pG,h0,h1],rfl⟩
  |false=>
   cases h2:(t.toList==[99,119,110,100])with
   |true=>
    go_enter func272,ntmps272;go_wp2;go_ret2;exact⟨by simp[pG,h0,h1,h2],rfl⟩
   |false=>
    cases h3:(t.toList==[111,117,116])with
    |true=>
     go_enter func272,ntmps272;go_wp2;go_ret2;exact⟨by simp[pG,h0,h1,h2,h3],rfl⟩
    |false=>
     cases h4:(t.toList==[108,111,115,115,121])with
     |true=>
      go_enter func272,ntmps272;go_wp2;go_ret2;exact⟨by simp[pG,h0,h1,h2,h3,h4],rfl⟩
     |false=>
      cases h5:(t.toList==[115,101,113])with
      |true=>
       go_enter func272,ntmps272;go_wp2;go_ret2;exact⟨by simp[pG,h0,h1,h2,h3,h4,h5],rfl⟩
      |false=>
       cases h6:(t.toList==[115,105,122,101])with
       |true=>
        go_enter func272,ntmps272;go_wp2;go_ret2;exact⟨by simp[pG,h0,h1,h2,h3,h4,h5,h6],rfl⟩
       |false=>
        go_enter func272,ntmps272;go_wp2;go_ret2;exact⟨by simp[pG,h0,h1,h2,h3,h4,h5,h6],rfl⟩
theorem apK(t:ji)(w:jk):Calls prog 372 #[.string t] w λe w'=>e=.returned (.int .u8 (xC t.data.toList))/\w'=w:=by
 rw[<-aZ];cases h0:(t.toList==[105,100])with
 |true=>
  go_enter func372,ntmps372;go_wp2;go_ret;exact⟨by simp[xC,h0],rfl⟩
 |false=>
  cases h1:(t.toList==[114,116,116])with
  |true=>
   go_enter func372,ntmps372;go_wp2;go_ret;exact⟨by simp[xC,h0,h1],rfl⟩
  |false=>
   cases h2:(t.toList==[99,119,110,100])with
   |true=>
    go_enter func372,ntmps372;go_wp2;go_ret;exact⟨by simp[xC,h0,h1,h2],rfl⟩
   |false=>
    cases h3:(t.toList==[111,117,116])with
    |true=>
     go_enter func372,ntmps372;go_wp2;go_ret;exact⟨by simp[xC,h0,h1,h2,h3],rfl⟩
    |false=>
     cases h4:(t.toList==[108,111,115,115,121])with
     |true=>
      go_enter func372,ntmps372;go_wp2;go_ret;exact⟨by simp[xC,h0,h1,h2,h3,h4],rfl⟩
     |false=>
      cases h5:(t.toList==[115,101,113])with
      |true=>
       go_enter func372,ntmps372;go_wp2;go_ret;exact⟨by simp[xC,h0,h1,h2,h3,h4,h5],rfl⟩
      |false=>
       go_enter func372,ntmps372;go_wp2;go_ret;exact⟨by simp[xC,h0,h1,h2,h3,h4,h5],rfl⟩
theorem asE(t:ji)(w:jk):Calls prog 363 #[.string t] w λe w'=>e=.returned (.int .u8 (vC t.data.toList))/\w'=w:=by
 rw[<-aZ];cases h0:(t.toList==[43])with
 |true=>
  go_enter func363,ntmps363;go_wp2;go_ret;exact⟨by simp[vC,h0],rfl⟩
 |false=>
  cases h1:(t.toList==[45])with
  |true=>
   go_enter func363,ntmps363;go_wp2;go_ret;exact⟨by simp[vC,h0,h1],rfl⟩
  |false=>
   cases h2:(t.toList==[42])with
   |true=>
    go_enter func363,ntmps363;go_wp2;go_ret;exact⟨by simp[vC,h0,h1,h2],rfl⟩
   |false=>
    cases h3:(t.toList==[47])with
    |true=>
     go_enter func363,ntmps363;go_wp2;go_ret;exact⟨by simp[vC,h0,h1,h2,h3],rfl⟩
    |false=>
     cases h4:(t.toList==[37])with
     |true=>
      go_enter func363,ntmps363;go_wp2;go_ret;exact⟨by simp[vC,h0,h1,h2,h3,h4],rfl⟩
     |false=>
      cases h5:(t.toList==[60])with
      |true=>
       go_enter func363,ntmps363;go_wp2;go_ret;exact⟨by simp[vC,h0,h1,h2,h3,h4,h5],rfl⟩
      |false=>
       cases h6:(t.toList==[60,61])with
       |true=>
        go_enter func363,ntmps363;go_wp2;go_ret;exact⟨by simp[vC,h0,h1,h2,h3,h4,h5,h6],rfl⟩
       |false=>
        cases h7:(t.toList==[61,61])with
        |true=>
         go_enter func363,ntmps363;go_wp2;go_ret;exact⟨by simp[vC,h0,h1,h2,h3,h4,h5,h6,h7],rfl⟩
        |false=>
         cases h8:(t.toList==[33,61])with
         |true=>
          go_enter func363,ntmps363;go_wp2;go_ret;exact⟨by simp[vC,h0,h1,h2,h3,h4,h5,h6,h7,h8],rfl⟩
         |false=>
          cases h9:(t.toList==[38,38])with
          |true=>
           go_enter func363,ntmps363;go_wp2;go_ret;exact⟨by simp[vC,h0,h1,h2,h3,h4,h5,h6,h7,h8,h9],rfl⟩
          |false=>
           go_enter func363,ntmps363;go_wp2;go_ret;exact⟨by simp[vC,h0,h1,h2,h3,h4,h5,h6,h7,h8,h9],rfl⟩
end
namespace Hx
open Go.RowKit
structure Kn where
 name:ji
 kind:Int
 isVar:Bool
structure Ck where
 jy:List Kn
 en:Int
 ea:Int
def Vs:Kn:=⟨⟨#[]⟩,0,false⟩
def lJ(ns:List Kn)(t:ji):Kn:=(ns.find? λk=>k.name.data.toList==t.data.toList).getD Vs
def Ck.fail(c:Ck)(e a:Int):Ck:=if c.en=0 then ⟨c.jy,e,a⟩else c
def Ck.want(c:Ck)(k at' is:Int):Ck:=if k=is then c else c.fail 3 at'
def Ck.nG(c:Ck)(t:ji)(at':Int):Ck:=if (lJ c.jy t).kind=0 then c else c.fail 2 at'
def Ck.add(c:Ck)(t:ji)(kind:Int)(isVar:Bool):Ck:=⟨c.jy++[⟨t,kind,isVar⟩],c.en,c.ea⟩
def Ck.cut(c:Ck)(n:Nat):Ck:=⟨c.jy.take n,c.en,c.ea⟩
def qE:Nat->Nat->List Int
 |0,r=>[(r:Int)]
 |f+1,r=>if 128<=r then ((r%128+128:Nat):Int)::qE f (r/128)else [(r:Int)]
def ru(n:Int):Nat:=(if n<0 then 18446744073709551615-(2 * n)%18446744073709551616 else (2 * n)%18446744073709551616).toNat
def pV(n:Int):List Int:=qE 9 (ru n)
structure Co where
 code:List Int
 jy:List (ji×Int)
 free:Int
def Co.lay(c:Co)(o:Int)(ns:List Int):Co:=⟨c.code++o::ns.flatMap pV,c.jy,c.free⟩
def Co.jX(c:Co)(f:Int):Co:=⟨c.code,c.jy,f⟩
def Co.hold(c:Co):Co×Int:=(c.jX (wrap64 (c.free+1)),wrap64 (wrap64 (c.free+1)-1))
def Co.choose(c:Co)(into:Int):Co×Int:=if into= -1 then c.hold else (c,into)
def Co.wu(c:Co)(t:ji):Int:=((c.jy.find? λn=>n.1.data.toList==t.data.toList).map (·.2)).getD (-1)
def Co.know(c:Co)(t:ji)(slot:Int):Co:=⟨c.code,c.jy++[(t,slot)],c.free⟩
def Co.cut(c:Co)(n:Nat):Co:=⟨c.code,c.jy.take n,c.free⟩
structure oM where
 tag:Int:=0
 val:Int:=0
 give:Co->Int->Co×Int:=λc _=>(c,0)
 sub:Co->Int->Co×Int:=λc _=>(c,0)
structure Dn where
 jW:List Kn->Int:=λ_=>0
 look:Ck->Ck:=λc=>c
 give:Co->Int->Co×Int:=λc _=>(c,0)
 fd:oM:={}
def oM.dn(f:oM):Dn:={give:=f.give}
structure Ky where
 lay:Co->Co:=λc=>c
 idle:Bool:=false
 ends:Bool:=false
structure Ds where
 look:Ck->Ck:=λc=>c
 lay:Co->Co:=λc=>c
 fs:Ky:={}
def Ck.bracket(c:Ck)(t:ji)(ta:Int)(e:Dn)(ea one want:Int):Ck:=
 ((e.look ((c.nG t ta).add t one false)).want (e.jW ((c.nG t ta).add t one false).jy) ea want).cut c.jy.length
def Co.inside(c:Co)(t:ji)(e:Dn)(one:Int):Co×Int:=((e.give (c.know t one) (-1)).1.cut c.jy.length,(e.give (c.know t one) (-1)).2)
def Co.one(c:Co)(o into:Int)(e:Dn):Co×Int:=
 let r:=e.give c (-1)
 let k:=(r.1.jX c.free).choose into
 (k.1.lay o [k.2,r.2],k.2)
def Co.two(c:Co)(o into:Int)(e f:Dn):Co×Int:=
 let r:=e.give c (-1)
 let q:=f.give r.1 (-1)
 let k:=(q.1.jX c.free).choose into
 (k.1.lay o [k.2,r.2,q.2],k.2)
def Co.store(c:Co)(slot:Int)(e:Dn):Co:=
 let r:=e.give c slot
 (if r.2=slot then r.1 else r.1.lay 7 [slot,r.2]).jX c.free
def bytes(ns:List Int):List UInt8:=ns.map λn=>UInt8.ofNat n.toNat
theorem aao(a b:List Int):bytes (a++b)=bytes a++bytes b:=dF
theorem Lm(a:List Int):(bytes a).length=a.length:=List.length_map _
theorem ajB{a:List Int}{i:Nat}{x:Int}(h:a[i]? =some x):(bytes a)[i]? =some (UInt8.ofNat x.toNat):=by simp[bytes,h]
def xQ(s:List UInt8)(p:Nat)(xs:List Int):Prop:=∃r,s.drop p=bytes xs++r
theorem xQ.get{s:List UInt8}{p:Nat}{xs:List Int}(h:xQ s p xs){i:Nat}{x:Int}(hx:xs[i]? =some x):s[p+i]? =some (UInt8.ofNat x.toNat):=by
 obtain⟨r,hr⟩:=h;have h1:(s.drop p)[i]? =s[p+i]? :=List.getElem?_drop;rw[<-h1,hr,aT (by rw[Lm];exact(List.getElem?_eq_some_iff.1 hx).1)];exact ajB hx
theorem xQ.left{s:List UInt8}{p:Nat}{a b:List Int}(h:xQ s p (a++b)):xQ s p a:=by
 obtain⟨r,hr⟩:=h;exact⟨bytes b++r,by rw[hr,aao,bY]⟩
theorem xQ.right{s:List UInt8}{p:Nat}{a b:List Int}(h:xQ s p (a++b)):xQ s (p+a.length) b:=by
 obtain⟨r,hr⟩:=h;refine⟨r,?_⟩;rw[<-List.drop_drop,hr,aao,bY,<-Lm a,List.drop_left]
theorem xQ.len{s:List UInt8}{p:Nat}{xs:List Int}(h:xQ s p xs)(hx:xs≠[]):p+xs.length<=s.length:=by
 obtain⟨r,hr⟩:=h;have h1:=congrArg List.length hr;rw[fA,aA,Lm]at h1;have h2:=List.length_pos_iff.2 hx;omega
theorem Tv(f r:Nat):qE f r≠[]:=by
 cases f with
 |zero=>simp[qE]
 |succ f=>unfold qE;split<;>simp
theorem VI(a b i:Nat)(ha:a<2^i)(h:a+b * 2^i<18446744073709551616):bits .or .u64 (a:Int) ((b * 2^i:Nat):Int)=((a+b * 2^i:Nat):Int):=by
 have h1:a|||b * 2^i=a+b * 2^i:=by
  rw[Nat.or_comm,Nat.mul_comm b,<-Nat.two_pow_add_eq_or_of_lt ha];omega
 rw[bits_or_u64_nat a _ (by omega) (by omega),h1]
theorem YU(x:Nat)(h:x<18446744073709551616):IntKind.u64.wrap (x:Int)=(x:Int):=by
 rw[IntKind.wrap_u64];omega
theorem Rt(x:Nat)(h:x<256):(UInt8.ofNat x).toNat=x:=by
 rw[UInt8.toNat_ofNat'];exact iO h
theorem ae6(s:List UInt8)(p:Nat):∀(f i r acc:Nat),i+f=9->acc<2^(7 * i)->acc+r * 2^(7 * i)<18446744073709551616->xQ s (p+i) (qE f r)->∀n,(qE f r).length<=n->n+i<=10->
 um s p n i (acc:Int)=(signed ((acc+r * 2^(7 * i):Nat):Int),((i+(qE f r).length:Nat):Int))
 |0,i,r,acc,hi,ha,hz,hs,n,hn,hn2=>by
  have hi:i=9:=by omega
  subst hi;simp only[qE,eG]at hn;obtain⟨n',rfl⟩:∃n',n=n'+1:=⟨n-1,by omega⟩;have hr:r<=1:=by omega
  have hg:=hs.get (i:=0) (x:=(r:Int)) rfl;have hb:(s.getD (p+9) 0).toNat=r:=by
   rw[aU,show p+9=p+9+0 from rfl,hg];show(UInt8.ofNat (r:Int).toNat).toNat=r;rw[bK,Rt r (by omega)]
  unfold um;rw[hb,jg (by omega),jh (by omega),iO (by omega)];have hm:(((r:Nat):Int) * 2^(9 * 7))=((r * 2^(7 * 9):Nat):Int):=by rw[iJ,Int.natCast_pow];rfl
  rw[hm,YU _ (by omega),VI acc r (7 * 9) ha hz]
  rfl
 |f+1,i,r,acc,hi,ha,hz,hs,n,hn,hn2=>by
  obtain⟨n',rfl⟩:∃n',n=n'+1:=⟨n-1,by
   have:=List.length_pos_iff.2 (Tv (f+1) r);omega⟩
  have h7:2^(7 * (i+1))=128 * 2^(7 * i):=by rw[show 7 * (i+1)=7+7 * i by omega,Nat.pow_add]
  have hp:0<2^(7 * i):=Nat.two_pow_pos _;by_cases h:128<=r
  .have he:qE (f+1) r=((r%128+128:Nat):Int)::qE f (r/128):=by rw[qE,jh h]
   rw[he]at hs hn⊢;have hg:=hs.get (i:=0) (x:=((r%128+128:Nat):Int)) rfl;have hb:(s.getD (p+i) 0).toNat=r%128+128:=by
    rw[aU,show p+i=p+i+0 from rfl,hg];show(UInt8.ofNat ((r%128+128:Nat):Int).toNat).toNat=_;rw[bK,Rt _ (by omega)]
   have hmod:(r%128+128)%128=r%128:=by omega
   have hm:(((r%128:Nat):Int) * 2^(i * 7))=((r%128 * 2^(7 * i):Nat):Int):=by rw[Nat.mul_comm i 7,iJ,Int.natCast_pow];rfl
   have hsplit:r * 2^(7 * i)=r%128 * 2^(7 * i)+r/128 * (128 * 2^(7 * i)):=by
    rw[<-Nat.mul_assoc,<-Nat.add_mul]
    congr 1
    omega
   have hle:r%128 * 2^(7 * i)<=r * 2^(7 * i):=gQ _ (Nat.mod_le _ _);unfold um;rw[hb,jg (by omega),jg (by omega),hmod,hm,YU _ (by omega),VI acc (r%128) (7 * i) ha (by omega)];have ih:=ae6 s p f (i+1) (r/128) (acc+r%128 * 2^(7 * i)) (by omega) (by
    rw[h7];have:r%128 * 2^(7 * i)<=127 * 2^(7 * i):=gQ _ (by omega);omega) (by rw[h7];omega) (by
    have:=hs.right (a:=[((r%128+128:Nat):Int)]) (b:=qE f (r/128));rw[show p+(i+1)=p+i+[((r%128+128:Nat):Int)].length from rfl];exact this) n' (by simp only[aF]at hn;omega) (by omega)
   rw[ih,h7]
   congr 2
   .congr 1
    omega
   .simp only[aF];omega
  .have he:qE (f+1) r=[(r:Int)]:=by rw[qE,jg h]
   rw[he]at hs hn⊢;have hg:=hs.get (i:=0) (x:=(r:Int)) rfl;have hb:(s.getD (p+i) 0).toNat=r:=by
    rw[aU,show p+i=p+i+0 from rfl,hg];show(UInt8.ofNat (r:Int).toNat).toNat=r;rw[bK,Rt r (by omega)]
   have hm:(((r:Nat):Int) * 2^(i * 7))=((r * 2^(7 * i):Nat):Int):=by rw[Nat.mul_comm i 7,iJ,Int.natCast_pow];rfl
   unfold um;rw[hb,jg (by omega),jh (by omega),iO (by omega),hm,YU _ (by omega),VI acc r (7 * i) ha hz]
   rfl
theorem YV(n:Int):ru n<18446744073709551616:=by
 unfold ru;split<;>omega
theorem auk(x:Nat)(h:x<9223372036854775808):bits .xor .i64 (-1) (x:Int)= -(x:Int)-1:=by
 have h1:BitVec.ofInt 64 (-1)=BitVec.allOnes 64:=by decide
 have h2:(BitVec.ofInt 64 (x:Int)).toNat=x:=by
  rw[BitVec.ofInt_natCast,BitVec.toNat_ofNat];exact iO (by omega)
 show IntKind.i64.wrap ((BitVec.ofInt 64 (-1)^^^BitVec.ofInt 64 (x:Int)).toNat:Int)=_;rw[h1,BitVec.allOnes_xor,BitVec.toNat_not,h2];rw[IntKind.wrap_i64];omega
theorem asF(n:Int)(h:jJ n):signed (ru n:Int)=n:=by
 unfold jJ at h;have h1:bits .and .u64 ((ru n:Nat):Int) 1=((ru n&&&1:Nat):Int):=bits_and_u64_nat _ 1 (YV n) (by omega);unfold signed;rw[h1,Nat.and_one_is_mod];by_cases hn:n<0
 .have hz:ru n=(-2 * n-1).toNat:=by unfold ru;rw[jh hn];omega
  have hd:((ru n:Nat):Int)/2=(((-n-1).toNat:Nat):Int):=by rw[hz];omega
  rw[jh (by rw[hz];simp;omega),hd,auk _ (by omega)];omega
 .have hz:ru n=(2 * n).toNat:=by unfold ru;rw[jg hn];omega
  rw[jg (by rw[hz];simp;omega),hz];omega
theorem aqA{s:List UInt8}{p:Nat}{n:Int}(hs:xQ s p (pV n))(h:jJ n):read s p=(n,((pV n).length:Int)):=by
 have hl:=hs.len (Tv _ _);have hz:=YV n;have hlen:(qE 9 (ru n)).length<=10:=by
  have e:∀f r,(qE f r).length<=f+1:=by
   intro f;induction f with
   |zero=>intro r;simp[qE]
   |succ f ih=>intro r;unfold qE;split<;>simp;exact dH (ih _) (by omega)
  exact e 9 _
 unfold read;have:=ae6 s p 9 0 (ru n) 0 rfl (by simp) (by simpa using hz) (by rw[Nat.add_zero];exact hs) (min (s.length-p) 10) (by
  have:(pV n).length=(qE 9 (ru n)).length:=rfl;omega) (by omega)
 rw[show((0:Nat):Int)=0 from rfl]at this;rw[this];have e0:(0+ru n * 2^(7 * 0):Nat)=ru n:=by simp
 rw[e0,asF n h,gW]
 rfl
structure I where
 o:Int
 ns:List Int
def enc(i:I):List Int:=i.o::i.ns.flatMap pV
def jU(is:List I):List Int:=is.flatMap enc
theorem ny(i:I)(is:List I):jU (i::is)=enc i++jU is:=c8
theorem nN(a b:List I):jU (a++b)=jU a++jU b:=gu
theorem mF:jU []=[]:=rfl
def Zy(c:UInt8)(n:Int):Prop:=jJ n/\(c=115->0<=n/\n<2008)/\(c=108->0<=n/\n<3)
def IK:List UInt8->List Int->Prop
 |[],ns=>ns=[]
 |c::cs,ns=>∃n ns',ns=n::ns'/\Zy c n/\IK cs ns'
structure rC(i:I):Prop where
 op:0<=i.o/\i.o<=36
 Vu:IK (shape i.o) i.ns
def slotsOf:List UInt8->List Int->Int->Int
 |c::cs,n::ns,sl=>slotsOf cs ns (if c=115 then max sl (n+1)else sl)
 |_,_,sl=>sl
def stepOf(i:I):St:=⟨i.o,i.ns.getD 0 0,i.ns.getD 1 0,i.ns.getD 2 0,i.ns.getD 3 0,0,0⟩
end Hx
section
open Go.RowKit Hx
theorem Nz{bs:List UInt8}:∀{cs:List UInt8}{ns:List Int}{p:Nat}{sl:Int},IK cs ns->xQ bs p (ns.flatMap pV)->wP bs cs p sl=some (ns,p+(ns.flatMap pV).length,slotsOf cs ns sl)
 |[],ns,p,sl,h,hs=>by
  have h:ns=[]:=h;subst h
  rfl
 |c::cs,_,p,sl,⟨n,ns,rfl,h1,h2⟩,hs=>by
  rw[c8]at hs;have hr:=aqA hs.left h1.1;have hl:0<(pV n).length:=List.length_pos_iff.2 (Tv _ _);unfold wP;rw[hr];simp only;rw[jg (by omega),jg (by rintro⟨e,h⟩;have:=h1.2.1 e;omega),jg (by rintro⟨e,h⟩;have:=h1.2.2 e;omega)];rw[bK,Nz h2 hs.right];simp only[iH,c8,aA,slotsOf,bJ,Prod.mk.injEq,true_and,and_true];omega
def uf(l:Ls)(i:I):Ls:=lH {l with pos:=l.pos+(enc i).length,jD:=slotsOf (Hx.shape i.o) i.ns l.jD} (stepOf i)
theorem NC{bs:List UInt8}{l:Ls}{i:I}(h:rC i)(h0:0<=l.pos)(hs:xQ bs l.pos.toNat (enc i)):xH bs l=some (stepOf i,{l with pos:=l.pos+(enc i).length,jD:=slotsOf (Hx.shape i.o) i.ns l.jD}):=by
 have hg:=hs.get (i:=0) (x:=i.o) rfl;have hop:=h.op;have ho:(UInt8.ofNat i.o.toNat).toNat=i.o.toNat:=Rt _ (by omega);have hoi:((UInt8.ofNat i.o.toNat).toNat:Int)=i.o:=by rw[ho];omega
 unfold xH;rw[Nat.add_zero]at hg;rw[hg];simp only;rw[hoi,jh (by unfold Ew;simp;omega),Nz h.Vu (by
  have:=hs.right (a:=[i.o]) (b:=i.ns.flatMap pV);exact this)]
 simp only[stepOf,bJ,Prod.mk.injEq,true_and]
 congr 1
 simp only[enc,aF];omega
def D9:List I->Ls->Prop
 |[],_=>True
 |i::is,l=>l.jH≠[]/\l.bad=false/\rC i/\D9 is (uf l i)
theorem D9.append:∀{a b:List I}{l:Ls},D9 a l->D9 b (a.foldl uf l)->D9 (a++b) l
 |[],_,_,_,h=>h
 |_::_,_,_,⟨h1,h2,h3,h4⟩,h=>⟨h1,h2,h3,D9.append h4 h⟩
theorem amf(l:Ls)(s:St):(lH l s).pos=l.pos:=by
 unfold lH;repeat' split
 all_goals first|rfl|(unfold Ip;split<;>rfl)
theorem ade{bs:List UInt8}:∀(is:List I)(l:Ls)(f:Nat),0<=l.pos->D9 is l->xQ bs l.pos.toNat (jU is)->uX bs (f+is.length) l=uX bs f (is.foldl uf l)
 |[],_,_,_,_,_=>rfl
 |i::is,l,f,h0,⟨h1,h2,h3,h4⟩,hs=>by
  rw[ny]at hs;have e:f+(i::is).length=(f+is.length)+1:=by simp only[aF];omega
  rw[e]
  conv=>lhs;unfold uX
  rw[jg (by rw[h2];simpa using h1),NC h3 h0 hs.left];simp only;have hp:(uf l i).pos=l.pos+(enc i).length:=amf _ _;have ih:=ade is (uf l i) f (by rw[hp];omega) h4 (by
   rw[hp,show(l.pos+((enc i).length:Int)).toNat=l.pos.toNat+(enc i).length by omega];exact hs.right)
  rw[bP,<-ih]
  rfl
end
end Go.Proofs.YthllhabjfchgiaaGreatDoor
