import Derived.Deep.RegionLaw
import Derived.Deep.DrawnRows
import Derived.Test.YthllhabjfchgiaaGreatDoorHk02
set_option maxRecDepth 100000
set_option maxHeartbeats 8000000
set_option linter.unusedSimpArgs false
namespace Go.Proofs.YthllhabjfchgiaaGreatDoor
open _root_.Go.Proofs.Tryz
section
abbrev aY:=@Go.heap_alloc_new
abbrev fM:=@Go.World.news_of_block
end
section
open Go.RowKit
open Hx (Rd Pk Vw St Mc jJ)
attribute [local go_sem ↓] Go.wp_at_zero Go.wp_at_succ
section
variable {B C:Nat}{w:jk}{M SB:Nat}{v:Vw}{m:Mc}
theorem al7:(prog.info? 76).map (λi=>(i.zero,i.size,i.bytes))=some (some (.agg #[Im 0,Im 0]),2,16):=by kernel_rfl
theorem kQ.ahW(h:kQ B C w M SB v m){va:jm}(hva:w.ownsRow C 76 2 va m.jO.length (sD m.jO)){w1:jk}(hg:w.grownBy w1 va.ownBlock)
 {v':jm}{Og:List (Int×Int)}(hown:w1.ownsRow C 76 2 v' Og.length (sD Og)):
 kQ B C (w1.setCell (Ad M 12) v') M SB v {m with jO:=Og}/\Below B w (w1.setCell (Ad M 12) v')/\
 (∃u,w1.cell? (Ad M 12)=some u)/\w1.frozen? (Ad M 12)=false:=by
 have hs:=h.size;have b1:=h.bM;have b2:=h.bS;have c1:=h.cM;have c2:=h.cS;have hne:=h.ne;have Po:∀k,k<C->some k≠va.ownBlock:=λk hk e=>by
  have:=(hva.lt k e.symm).1;omega
 have hb:=λk (hk:k<C)=>hg.block k (by omega) (Po k hk);have hc1:∀x:Addr,x.block<C->w1.cell? x=w.cell? x:=λx hx=>bQ (hb _ hx);have hf1:∀x:Addr,x.block<C->w1.frozen? x=w.frozen? x:=λx hx=>dZ (hb _ hx);have hc:∀x:Addr,x.block<C->¬x.block=M->(w1.setCell (Ad M 12) v').cell? x=w.cell? x:=λx hx hM=>by
  rw[bG _ _ _ _ (λe=>hM (by rw[<-e]))];exact hc1 x hx
 have hcM:∀k,¬k=12->(w1.setCell (Ad M 12) v').cell? (Ad M k)=w.cell? (Ad M k):=λk hk=>by
  rw[bG _ _ _ _ (by intro e;cases e;exact hk rfl)];exact hc1 _ c1
 obtain⟨va0,alQ,_⟩:=h.jO;have h12:w1.cell? (Ad M 12)=some va0:=by rw[hc1 _ c1];exact alQ
 have hsz:=hg.size;refine⟨⟨?_,h.bM,h.bS,h.cM,h.cS,h.ne,by simp;omega,?_,?_,?_,?_,?_,h.P6,?_,?_,h.Du,h.G9,?_,h.one⟩,?_,⟨va0,h12⟩,by rw[hf1 _ c1];exact h.IY⟩
 .exact h.view.keep (λx hx=>hc x (by omega) (by omega)) (λk hk=>hcM k (by omega))
 .rw[hcM 3 (by omega)];exact h.jD
 .intro k hk;rw[hc _ c2 (λe=>hne e.symm)];exact h.slot k hk
 .intro k hk;rw[dX,hf1 _ c2];exact h.CB k hk
 .intro k hk;rw[hcM _ (by omega)];exact h.left k hk
 .intro k hk;rw[dX,hf1 _ c1];exact h.Jw k hk
 .refine⟨v',dB _ _ _ h12,hown.kept (vO w1 (Ad M 12) v') ?_⟩;cases hb:v'.ownBlock with
  |none=>exact jf rfl
  |some g=>
   right;have:=(hown.lt g hb).1;simp;omega
 .rw[dX,hf1 _ c1];exact h.IY
 .intro j hj;have:=h.one;rw[hc _ (by show 1<_;omega) (by show¬1=M;omega)];exact h.J8 j hj
 .exact((dK _ _).grown hg (by omega) (λk hk=>by have:=(hva.lt k hk).1;omega)).setCell (p:=(Ad M 12)) h.bM _
theorem apS(hm:kQ B C w M SB v m)(i j:Int)(r:Rd)(p:Pk)(hj:j<=9223372036854775807)(hr:v.sN i=some r)(hp:v.uM j=some p)(hl:m.jO.length<256):
 Calls prog 54 #[Pt M 0,Im i,Im j] w λe w'=>e=.returned (.bool true)/\kQ B C w' M SB v {m with jO:=m.jO++[(r.id,p.seq)]}/\Below B w w':=by
 have HR:Hid (Calls prog 97 #[Pt M 0,Im i] w λe w'=>(∃p,e=.returned p/\BD w p (some r))/\w'=w):=by
  have:=QI B M i v w hm.view
  rwa [hr]at this
 have HQ:Hid (Calls prog 98 #[Pt M 0,Im j] w λe w'=>(∃q,e=.returned q/\BA w q (some p))/\w'=w):=by
  have:=Qy B M j v w hm.view hj
  rwa [hp]at this
 obtain⟨va,hva,hown⟩:=hm.jO;have hlen:(m.jO.length:Int)<256:=by omega
 have hne:((m.jO.length:Int)==256)=false:=by simp;omega
 have fa:=hm.IY;obtain⟨aa,cap,hval⟩:∃aa cap,va=.slice aa m.jO.length cap:=by
  obtain⟨h1,h2⟩:=hown;rcases h2 with⟨h3,h4⟩|⟨g,cap,cur,h3,h4⟩
  .exact⟨none,0,by rw[h3,h4]⟩
  .exact⟨_,_,h3⟩
 obtain⟨i0,hi0,hz0,hz1,hz2⟩:=info_parts al7;have HP:Hid (∀(o:Obj)(n:Nat)(w1:jk)(v':jm),((w.alloc o).drewN n).grownBy w1 va.ownBlock->w1.ownsRow C 76 2 v' (m.jO.length+1) (sD m.jO++[Im r.id,Im p.seq])->
  kQ B C (w1.setCell (Ad M 12) v') M SB v {m with jO:=m.jO++[(r.id,p.seq)]}/\Below B w (w1.setCell (Ad M 12) v')/\(∃u,w1.cell? (Ad M 12)=some u)/\w1.frozen? (Ad M 12)=false):=by
  intro o n w1 v' hg ho;have hm':=(hm.alloc o).drewN n;have e1:sD (m.jO++[(r.id,p.seq)])=sD m.jO++[Im r.id,Im p.seq]:=by simp[sD]
  have e2:(m.jO++[(r.id,p.seq)]).length=m.jO.length+1:=by simp
  have hown2:w1.ownsRow C 76 2 v' (m.jO++[(r.id,p.seq)]).length (sD (m.jO++[(r.id,p.seq)])):=by rw[e1,e2];exact ho
  obtain⟨h1,h2,h3,h4⟩:=hm'.ahW (va:=va) ((hown.alloc o).kept (w':=(w.alloc o).drewN n) (row:=none) ⟨rfl,rfl,rfl,aj _,λ_ _ _=>rfl⟩ (by cases va.ownBlock<;>simp)) hg hown2;exact⟨h1,(below_drewN ((dK _ _).alloc (by have:=hm.size;have:=hm.cM;have:=hm.bM;omega) o) n).trans h2,h3,h4⟩
 have hO:∀(o:Obj)(n:Nat),((w.alloc o).drewN n).ownsRow C 76 2 va m.jO.length (sD m.jO):=λo n=>
  (hown.alloc o).kept (w':=(w.alloc o).drewN n) (row:=none) ⟨rfl,rfl,rfl,aj _,λ_ _ _=>rfl⟩ (by cases va.ownBlock<;>simp)
 have HO:=jA hO;have hsz:=hm.size;have hMs:M<w.heap.size:=by have:=hm.cM;omega
 have hmx:m.jO.length+1<=maxLen:=by unfold maxLen;omega
 have hby:(m.jO.length+1) * 16<=140737488355328:=by omega
 subst hval;clear hO hown hm hr hp;generalize sD m.jO=cells at *;generalize m.jO++[(r.id,p.seq)]=Og at *;generalize m.jO.length=len at *;go_enter func54,ntmps54;go_wp2_with fail;refine(HR.out).mono ?_;rintro e w1 ⟨⟨pr,rfl,b1,o1,rfl,r1,r2,r3,r4,r5⟩,rfl⟩;go_wp2_with fail;refine(HQ.out).mono ?_;rintro e w2 ⟨⟨pp,rfl,b2,o2,rfl,q1,q2,q3⟩,rfl⟩;go_wp2_with fail;go_region_law ((refine step_append_lies _ (by rfl) _ _ _ (by rfl) C 76 i0 _ 2 16 Tryz.underlying33 hi0 hz0 hz1 hz2 (by rfl) (by omega) (.slice aa len cap) len cells (by rfl) (HO.out _ 1) (Ad w2.heap.size 0) 1 1 [Im r.id,Im p.seq] (by rfl) (by rfl) (fM (cs:=#[Im r.id,Im p.seq]) (t:=76) (fr:=(0,0)) (aY w2 _)) (by simp[Value.oneCell']) (by omega) hmx hby (by simp;omega) (w2.heap.size+1) (by simp) ?_;intro gg cap1 w3 hown1 hgrow hat hlt;obtain⟨u12,Uu⟩:=(HP.out _ 1 _ _ hgrow hown1).2.2.1;have Ug:=(HP.out _ 1 _ _ hgrow hown1).2.2.2));all_goals (go_wp2;go_ret;exact⟨rfl,(HP.out _ 1 _ _ hgrow hown1).1,(HP.out _ 1 _ _ hgrow hown1).2.1⟩)
theorem aeS(hm:kQ B C w M SB v m)(i j:Int)(hj:j<=9223372036854775807)(hn:v.sN i=none\/v.uM j=none):
 Calls prog 54 #[Pt M 0,Im i,Im j] w λe w'=>e=.returned (.bool true)/\w'=w:=by
 have HR:=jA (QI B M i v w hm.view);have HQ:=jA (Qy B M j v w hm.view hj);clear hm;generalize v.sN i=rd at *;generalize v.uM j=pk at *;cases rd with
 |none=>
  go_enter func54,ntmps54;go_wp2_with fail;refine(HR.out).mono ?_;rintro e w1 ⟨⟨pr,rfl,rfl⟩,rfl⟩;go_wp2_with fail;refine(HQ.out).mono ?_;rintro e w2 ⟨⟨pp,rfl,hq⟩,rfl⟩;go_wp2;go_ret;exact⟨rfl,rfl⟩
 |some r=>
  obtain rfl:pk=none:=hn.resolve_left (by simp);go_enter func54,ntmps54;go_wp2_with fail;refine(HR.out).mono ?_;rintro e w1 ⟨⟨pr,rfl,b1,o1,rfl,r1,r2,r3,r4,r5⟩,rfl⟩;go_wp2_with fail;refine(HQ.out).mono ?_;rintro e w2 ⟨⟨pp,rfl,rfl⟩,rfl⟩;go_wp2;go_ret;exact⟨rfl,rfl⟩
theorem apR(hm:kQ B C w M SB v m)(i j:Int)(r:Rd)(p:Pk)(hj:j<=9223372036854775807)(hr:v.sN i=some r)(hp:v.uM j=some p)(hl:m.jO.length=256):
 Calls prog 54 #[Pt M 0,Im i,Im j] w λe w'=>e=.returned (.bool false)/\w'=w:=by
 have HR:Hid (Calls prog 97 #[Pt M 0,Im i] w λe w'=>(∃p,e=.returned p/\BD w p (some r))/\w'=w):=by
  have:=QI B M i v w hm.view
  rwa [hr]at this
 have HQ:Hid (Calls prog 98 #[Pt M 0,Im j] w λe w'=>(∃q,e=.returned q/\BA w q (some p))/\w'=w):=by
  have:=Qy B M j v w hm.view hj
  rwa [hp]at this
 obtain⟨va,hva,hown⟩:=hm.jO;obtain⟨aa,cap,hval⟩:∃aa cap,va=.slice aa 256 cap:=by
  obtain⟨h1,h2⟩:=hown;rcases h2 with⟨h3,h4⟩|⟨g,cap,cur,h3,h4⟩
  .omega
  .exact⟨_,_,by rw[h3,hl]⟩
 subst hval;clear hown hm hr hp hl;go_enter func54,ntmps54;go_wp2_with fail;refine(HR.out).mono ?_;rintro e w1 ⟨⟨pr,rfl,b1,o1,rfl,r1,r2,r3,r4,r5⟩,rfl⟩;go_wp2_with fail;refine(HQ.out).mono ?_;rintro e w2 ⟨⟨pp,rfl,b2,o2,rfl,q1,q2,q3⟩,rfl⟩;go_wp2;go_ret;exact⟨rfl,rfl⟩
end
end
section
open Go.RowKit
open Hx (St Bk Ls jJ)
attribute [local go_sem ↓] Go.wp_at_zero Go.wp_at_succ
section
variable {B:Nat}{w:jk}{L:Nat}{s:ji}{l:Ls}{vs vb vl:jm}
theorem jS.as1(h:jS B w L s l vs vb vl){w1:jk}(hg:w.grownBy w1 vs.ownBlock){vs':jm}{steps':List St}(hown:w1.ownsRow B 125 7 vs' steps'.length (steps'.flatMap wS))
 (hat:∀g,vs'.ownBlock=some g->vs.ownBlock=some g\/w.heap.size<=g):
 jS B (w1.setCell (Ad L 2) vs') L s {l with jB:=steps'} vs' vb vl/\jT L w vs vb vl (w1.setCell (Ad L 2) vs') vs' vb vl/\w1.cell? (Ad L 2)=some vs/\w1.frozen? (Ad L 2)=false:=by
 have hL:=h.lt;have hbL:=hg.block L hL (λe=>h.ns e.symm);have hc1:∀j,w1.cell? (Ad L j)=w.cell? (Ad L j):=λj=>bQ hbL;have hf1:∀j,w1.frozen? (Ad L j)=w.frozen? (Ad L j):=λj=>dZ hbL;have hc:∀j,¬j=2->(w1.setCell (Ad L 2) vs').cell? (Ad L j)=w.cell? (Ad L j):=λj hj=>by
  rw[bG _ _ _ _ (by intro e;cases e;exact hj rfl)];exact hc1 j
 have h2:w1.cell? (Ad L 2)=some vs:=by rw[hc1];exact h.c2
 have ns':vs'.ownBlock≠some L:=λe=>by
  rcases hat L e with h1|h1
  .exact h.ns h1
  .omega
 have pF:∀{v:jm},(vs.ownBlock=none\/vs.ownBlock≠v.ownBlock)->(∀g,v.ownBlock=some g->g<w.heap.size)->vs'.ownBlock=none\/vs'.ownBlock≠v.ownBlock:=λ{v} hv hlt=>by
  cases hq:vs'.ownBlock with
  |none=>exact jf rfl
  |some g=>
   refine je (λe=>?_);have hg':=hlt g e.symm;rcases hat g hq with h1|h1
   .rcases hv with h3|h3
    .rw[h3]at h1;cases h1
    .exact h3 (h1.trans e)
   .omega
 have hbw:=h.jH;have G8:=h.jV;have hg2:=vO w1 (Ad L 2) vs';refine⟨⟨h.bL,by rw[hc 0 (by omega)];exact h.c0,by rw[hc 1 (by omega)];exact h.c1,dB _ _ _ h2,by rw[hc 3 (by omega)];exact h.c3,by rw[hc 4 (by omega)];exact h.c4,by rw[hc 5 (by omega)];exact h.c5,by rw[hc 6 (by omega)];exact h.c6,by rw[hc 7 (by omega)];exact h.c7,
  λj=>by rw[dX,hf1];exact h.fr j,hown.kept hg2 (je ns'),(hbw.kept hg ?_).kept hg2 (je h.nb),(G8.kept hg ?_).kept hg2 (je h.nl),ns',h.nb,h.nl,pF h.sb (λg e=>(hbw.lt g e).2),pF h.sl (λg e=>(G8.lt g e).2),h.bl⟩,?_,h2,by rw[hf1];exact h.fr 2⟩
 .cases hq:vb.ownBlock with
  |none=>exact jf rfl
  |some g=>
   refine je (λe=>?_);rcases h.sb with h3|h3
   .rw[h3]at e;cases e
   .exact h3 (by rw[hq];exact e.symm)
 .cases hq:vl.ownBlock with
  |none=>exact jf rfl
  |some g=>
   refine je (λe=>?_);rcases h.sl with h3|h3
   .rw[h3]at e;cases e
   .exact h3 (by rw[hq];exact e.symm)
 .refine⟨hg.os,hg.tape,hg.output,by simpa using hg.size,λk hk MB h1 _ _=>?_,hat,λ_ h=>jf h,λ_ h=>jf h⟩;rw[bC _ _ _ _ MB];exact hg.block k hk h1
theorem ak3(w:jk)(o1 o2:Obj):((w.alloc o1).alloc o2).drew.heap[w.heap.size+1]? =some o2:=by
 have:=aY (w.alloc o1) o2
 rwa [World.size_alloc]at this
theorem amc:(prog.info? 125).map (λi=>(i.zero,i.size,i.bytes))=some (some (.agg #[.int .u8 0,Im 0,Im 0,Im 0,Im 0,Im 0,Im 0]),7,56):=by kernel_rfl
theorem Cm{base:Nat}{e:jo}{size n:Nat}{v:jm}{xs:List jm}(h:w.ownsRow base e size v n xs):∃a c,v=.slice a n c:=by
 rcases h.2 with⟨h1,h2⟩|⟨g,cap,cur,h1,h2⟩
 .exact⟨none,0,by rw[h1,h2]⟩
 .exact⟨_,_,h1⟩
theorem IZ(h:jS B w L s l vs vb vl)(hne:l.jH≠[])(hlb:l.jH.length<=1000000)(hls:l.jB.length<=1000000)(q a b c d dp t:Int):
 Calls prog 118 #[Pt L 0,.agg #[.int .u8 q,Im a,Im b,Im c,Im d,Im dp,Im t]] w λe w'=>e=.returned (.tuple #[])/\
  ∃vs',jS B w' L s (Hx.Ls.count {l with jB:=l.jB++[⟨q,a,b,c,d,dp,t⟩]} 1) vs' vb vl/\jT L w vs vb vl w' vs' vb vl:=by
 obtain⟨aS,cS,rfl⟩:=Cm h.jB;obtain⟨i0,hi0,hz0,hz1,hz2⟩:=info_parts amc;have HP:Hid (∀(o1 o2:Obj)(k:Nat)(w1:jk)(g cap:Nat),(((w.alloc o1).alloc o2).drewN k).grownBy w1 (Value.slice aS l.jB.length cS).ownBlock->
  w1.ownsRow B 125 7 (.slice (some (Ad g 0)) (l.jB.length+1) cap) (l.jB.length+1) (l.jB.flatMap wS++[.int .u8 q,Im a,Im b,Im c,Im d,Im dp,Im t])->
  ((Value.slice aS l.jB.length cS).ownBlock=some g\/g=w.heap.size+1+1)->
  jS B (w1.setCell (Ad L 2) (.slice (some (Ad g 0)) (l.jB.length+1) cap)) L s {l with jB:=l.jB++[⟨q,a,b,c,d,dp,t⟩]} (.slice (some (Ad g 0)) (l.jB.length+1) cap) vb vl/\
  jT L w (.slice aS l.jB.length cS) vb vl (w1.setCell (Ad L 2) (.slice (some (Ad g 0)) (l.jB.length+1) cap)) (.slice (some (Ad g 0)) (l.jB.length+1) cap) vb vl/\
  w1.cell? (Ad L 2)=some (.slice aS l.jB.length cS)/\w1.frozen? (Ad L 2)=false):=by
  intro o1 o2 k w1 g cap hg ho hat;have hW:=((h.alloc o1).alloc o2).drewN k;have e1:(l.jB++[(⟨q,a,b,c,d,dp,t⟩:St)]).length=l.jB.length+1:=by simp
  have e2:(l.jB++[(⟨q,a,b,c,d,dp,t⟩:St)]).flatMap wS=l.jB.flatMap wS++[.int .u8 q,Im a,Im b,Im c,Im d,Im dp,Im t]:=by simp[wS]
  have hsz:(((w.alloc o1).alloc o2).drewN k).heap.size=w.heap.size+1+1:=by simp
  obtain⟨h1,h2,h3,h4⟩:=hW.as1 hg (vs':=.slice (some (Ad g 0)) (l.jB.length+1) cap) (steps':=l.jB++[⟨q,a,b,c,d,dp,t⟩]) (by rw[e1,e2];exact ho) (λg' hg'=>by
   have:g=g':=by simpa [Value.ownBlock]using hg'
   subst this;rcases hat with h5|h5
   .exact jf h5
   .exact je (by rw[hsz];omega))
  exact⟨h1,(jT.grow L w _ _ _ (w':=((w.alloc o1).alloc o2).drewN k) ((ah w o1 none).trans ((ah _ o2 none).trans ⟨rfl,rfl,rfl,aj _,λ_ _ _=>rfl⟩))).trans h2,h3,h4⟩
 have HO:=jA (λ(o1:Obj)(o2:Obj)(k:Nat)=>(((h.alloc o1).alloc o2).drewN k).jB);have HC:Hid (∀(w2:jk)(vs2:jm),jS B w2 L s {l with jB:=l.jB++[⟨q,a,b,c,d,dp,t⟩]} vs2 vb vl->
  Calls prog 172 #[Pt L 0,Im 1] w2 λe w'=>e=.returned (.tuple #[])/\jS B w' L s (Hx.Ls.count {l with jB:=l.jB++[⟨q,a,b,c,d,dp,t⟩]} 1) vs2 vb vl/\jT L w2 vs2 vb vl w' vs2 vb vl):=λw2 vs2 h2=>
  OD h2 hne hlb 1
 have c2:=h.c2;have hL:=h.lt;have hBw:B<=w.heap.size:=by have:=h.bL;omega
 have n1:¬L=w.heap.size:=by omega
 have n2:¬L=w.heap.size+1:=by omega
 have hmx:l.jB.length+1<=maxLen:=by unfold maxLen;omega
 have hby:(l.jB.length+1) * 56<=140737488355328:=by omega
 clear h hne hlb hls;generalize Hx.Ls.count {l with jB:=l.jB++[⟨q,a,b,c,d,dp,t⟩]} 1=l2 at *;generalize ({l with jB:=l.jB++[⟨q,a,b,c,d,dp,t⟩]}:Ls)=l1 at *;generalize l.jB.flatMap wS=cells at *;generalize l.jB.length=len at *;go_enter func118,ntmps118;go_wp2_with fail;go_region_law ((refine step_append_lies _ (by rfl) _ _ _ (by rfl) B 125 i0 _ 7 56 Tryz.underlying118 hi0 hz0 hz1 hz2 (by rfl) (by omega) (.slice aS len cS) len cells (by rfl) (HO.out _ _ 1) (Ad (w.heap.size+1) 0) 1 1 [.int .u8 q,Im a,Im b,Im c,Im d,Im dp,Im t] (by rfl) (by rfl) (fM (cs:=#[.int .u8 q,Im a,Im b,Im c,Im d,Im dp,Im t]) (t:=125) (fr:=(0,0)) (ak3 w _ _)) (by simp[Value.oneCell']) (by omega) hmx hby (by simp;omega) (w.heap.size+1+1) (by simp) ?_;intro gg cap1 w3 hown1 hgrow hat hlt;have hu2:=(HP.out _ _ 1 _ _ _ hgrow hown1 hat).2.2.1;have hf2:=(HP.out _ _ 1 _ _ _ hgrow hown1 hat).2.2.2));all_goals
  have hm:=(HP.out _ _ 1 _ _ _ hgrow hown1 hat).1;have hv:=(HP.out _ _ 1 _ _ _ hgrow hown1 hat).2.1;have HM:=jA (jd hm hv);clear hm hv hu2 hf2 hown1 hgrow hat hlt;go_wp2_with fail;refine(HC.out _ _ HM.out.1).mono ?_;rintro e w4 ⟨rfl,h5,h6⟩;go_wp2;go_end0;exact⟨rfl,_,h5,HM.out.2.trans h6⟩
theorem Ea{u v:jm}(h:u.ownBlock=none\/u.ownBlock≠v.ownBlock):v.ownBlock=none\/v.ownBlock≠u.ownBlock:=by
 cases hv:v.ownBlock with
 |none=>exact jf rfl
 |some g=>
  refine je (λe=>?_);rcases h with h|h
  .rw[h]at e;cases e
  .exact h (by rw[hv];exact e.symm)
theorem Oi{w:jk}{v v' u:jm}(hv:v.ownBlock=none\/v.ownBlock≠u.ownBlock)(hat:∀g,v'.ownBlock=some g->v.ownBlock=some g\/w.heap.size<=g)(hlt:∀g,u.ownBlock=some g->g<w.heap.size):v'.ownBlock=none\/v'.ownBlock≠u.ownBlock:=by
 cases hq:v'.ownBlock with
 |none=>exact jf rfl
 |some g=>
  refine je (λe=>?_);have hg':=hlt g e.symm;rcases hat g hq with h1|h1
  .rcases hv with h3|h3
   .rw[h3]at h1;cases h1
   .exact h3 (h1.trans e)
  .omega
theorem jS.SV(h:jS B w L s l vs vb vl){w1:jk}(hg:w.grownBy w1 vb.ownBlock){kL:jm}{blocks':List Bk}(hown:w1.ownsRow B 226 4 kL blocks'.length (blocks'.flatMap rQ))
 (hat:∀g,kL.ownBlock=some g->vb.ownBlock=some g\/w.heap.size<=g):
 jS B (w1.setCell (Ad L 3) kL) L s {l with jH:=blocks'} vs kL vl/\jT L w vs vb vl (w1.setCell (Ad L 3) kL) vs kL vl/\w1.cell? (Ad L 3)=some vb/\w1.frozen? (Ad L 3)=false:=by
 have hL:=h.lt;have hbL:=hg.block L hL (λe=>h.nb e.symm);have hc1:∀j,w1.cell? (Ad L j)=w.cell? (Ad L j):=λj=>bQ hbL;have hf1:∀j,w1.frozen? (Ad L j)=w.frozen? (Ad L j):=λj=>dZ hbL;have hc:∀j,¬j=3->(w1.setCell (Ad L 3) kL).cell? (Ad L j)=w.cell? (Ad L j):=λj hj=>by
  rw[bG _ _ _ _ (by intro e;cases e;exact hj rfl)];exact hc1 j
 have h3:w1.cell? (Ad L 3)=some vb:=by rw[hc1];exact h.c3
 have nb':kL.ownBlock≠some L:=λe=>by
  rcases hat L e with h1|h1
  .exact h.nb h1
  .omega
 have hsw:=h.jB;have G8:=h.jV;have hg2:=vO w1 (Ad L 3) kL;exact⟨⟨h.bL,by rw[hc 0 (by omega)];exact h.c0,by rw[hc 1 (by omega)];exact h.c1,by rw[hc 2 (by omega)];exact h.c2,dB _ _ _ h3,by rw[hc 4 (by omega)];exact h.c4,by rw[hc 5 (by omega)];exact h.c5,by rw[hc 6 (by omega)];exact h.c6,by rw[hc 7 (by omega)];exact h.c7,
  λj=>by rw[dX,hf1];exact h.fr j,(hsw.kept hg h.sb).kept hg2 (je h.ns),hown.kept hg2 (je nb'),(G8.kept hg (Ea h.bl)).kept hg2 (je h.nl),h.ns,nb',h.nl,
  Ea (Oi (Ea h.sb) hat (λg e=>(hsw.lt g e).2)),h.sl,Oi h.bl hat (λg e=>(G8.lt g e).2)⟩,
  ⟨hg.os,hg.tape,hg.output,by simpa using hg.size,λk hk MB _ h2 _=>by rw[bC _ _ _ _ MB];exact hg.block k hk h2,λ_ h=>jf h,hat,λ_ h=>jf h⟩,h3,by rw[hf1];exact h.fr 3⟩
theorem jS.adl(h:jS B w L s l vs vb vl){w1:jk}(hg:w.grownBy w1 vl.ownBlock){lC:jm}{loops':List Int}(hown:w1.ownsRow B 3 1 lC loops'.length (loops'.map (Value.int .i64)))
 (hat:∀g,lC.ownBlock=some g->vl.ownBlock=some g\/w.heap.size<=g):
 jS B (w1.setCell (Ad L 4) lC) L s {l with jV:=loops'} vs vb lC/\jT L w vs vb vl (w1.setCell (Ad L 4) lC) vs vb lC/\w1.cell? (Ad L 4)=some vl/\w1.frozen? (Ad L 4)=false:=by
 have hL:=h.lt;have hbL:=hg.block L hL (λe=>h.nl e.symm);have hc1:∀j,w1.cell? (Ad L j)=w.cell? (Ad L j):=λj=>bQ hbL;have hf1:∀j,w1.frozen? (Ad L j)=w.frozen? (Ad L j):=λj=>dZ hbL;have hc:∀j,¬j=4->(w1.setCell (Ad L 4) lC).cell? (Ad L j)=w.cell? (Ad L j):=λj hj=>by
  rw[bG _ _ _ _ (by intro e;cases e;exact hj rfl)];exact hc1 j
 have h4:w1.cell? (Ad L 4)=some vl:=by rw[hc1];exact h.c4
 have nl':lC.ownBlock≠some L:=λe=>by
  rcases hat L e with h1|h1
  .exact h.nl h1
  .omega
 have hsw:=h.jB;have hbw:=h.jH;have hg2:=vO w1 (Ad L 4) lC;exact⟨⟨h.bL,by rw[hc 0 (by omega)];exact h.c0,by rw[hc 1 (by omega)];exact h.c1,by rw[hc 2 (by omega)];exact h.c2,by rw[hc 3 (by omega)];exact h.c3,dB _ _ _ h4,by rw[hc 5 (by omega)];exact h.c5,by rw[hc 6 (by omega)];exact h.c6,by rw[hc 7 (by omega)];exact h.c7,
  λj=>by rw[dX,hf1];exact h.fr j,(hsw.kept hg h.sl).kept hg2 (je h.ns),(hbw.kept hg h.bl).kept hg2 (je h.nb),hown.kept hg2 (je nl'),h.ns,h.nb,nl',
  h.sb,Ea (Oi (Ea h.sl) hat (λg e=>(hsw.lt g e).2)),Ea (Oi (Ea h.bl) hat (λg e=>(hbw.lt g e).2))⟩,
  ⟨hg.os,hg.tape,hg.output,by simpa using hg.size,λk hk MB _ _ h3=>by rw[bC _ _ _ _ MB];exact hg.block k hk h3,λ_ h=>jf h,λ_ h=>jf h,hat⟩,h4,by rw[hf1];exact h.fr 4⟩
theorem al8:(prog.info? 226).map (λi=>(i.zero,i.size,i.bytes))=some (some (.agg #[Im 0,Im 0,Im 0,Im 0]),4,32):=by kernel_rfl
theorem aee(h:jS B w L s l vs vb vl)(hne:l.jH≠[])(hlb:l.jH.length<=900000)(hls:l.jB.length<=900000)(q a b c d dp t:Int):
 Calls prog 113 #[Pt L 0,.agg #[.int .u8 q,Im a,Im b,Im c,Im d,Im dp,Im t]] w λe w'=>e=.returned (.tuple #[])/\
  ∃vs' kL,jS B w' L s (xA l ⟨q,a,b,c,d,dp,t⟩) vs' kL vl/\jT L w vs vb vl w' vs' kL vl:=by
 obtain⟨i0,hi0,hz0,hz1,hz2⟩:=info_parts al8;have HA:Hid (∀o,Calls prog 118 #[Pt L 0,.agg #[.int .u8 q,Im a,Im b,Im c,Im d,Im dp,Im t]] (w.alloc o) λe w'=>e=.returned (.tuple #[])/\
  ∃vs',jS B w' L s (mM l ⟨q,a,b,c,d,dp,t⟩) vs' vb vl/\jT L w vs vb vl w' vs' vb vl):=λo=>by
  refine(IZ (h.alloc o) hne (by omega) (by omega) q a b c d dp t).mono ?_;rintro e w' ⟨h1,vs',h2,h3⟩;exact⟨h1,vs',h2,(jT.grow L w _ _ _ (ah w o none)).trans h3⟩
 have hl1:(mM l ⟨q,a,b,c,d,dp,t⟩).jH.length=l.jH.length:=Oh l _ hne;have hl2:(mM l ⟨q,a,b,c,d,dp,t⟩).jB.length=l.jB.length+1:=by rw[La];simp
 have HO:Hid (xA l ⟨q,a,b,c,d,dp,t⟩={mM l ⟨q,a,b,c,d,dp,t⟩with jH:=(mM l ⟨q,a,b,c,d,dp,t⟩).jH++[⟨l.jB.length,0,0,0⟩]}):=rfl;have hL:=h.lt;have hBL:=h.bL;clear h hne;generalize xA l ⟨q,a,b,c,d,dp,t⟩=l2 at *;generalize mM l ⟨q,a,b,c,d,dp,t⟩=l1 at *;generalize l.jB.length=len at *;have xM:=jA hl1;have HL2:=jA hl2;clear hl1 hl2;have n1:¬L=w.heap.size:=by omega
 go_enter func113,ntmps113;go_wp2_with fail;refine(HA.out _).mono ?_;rintro e w1 ⟨rfl,vs1,h1,m1⟩;obtain⟨aS,cS,hvs⟩:=Cm h1.jB;obtain⟨aB,cB,hvb⟩:=Cm h1.jH;rw[HL2.out]at hvs;subst hvs;subst hvb;have HP:Hid (∀(o:Obj)(k:Nat)(w2:jk)(g cap:Nat),((w1.alloc o).drewN k).grownBy w2 (Value.slice aB l1.jH.length cB).ownBlock->
  w2.ownsRow B 226 4 (.slice (some (Ad g 0)) (l1.jH.length+1) cap) (l1.jH.length+1) (l1.jH.flatMap rQ++[Im len,Im 0,Im 0,Im 0])->
  ((Value.slice aB l1.jH.length cB).ownBlock=some g\/g=w1.heap.size+1)->
  jS B (w2.setCell (Ad L 3) (.slice (some (Ad g 0)) (l1.jH.length+1) cap)) L s l2 (.slice aS (len+1) cS) (.slice (some (Ad g 0)) (l1.jH.length+1) cap) vl/\
  jT L w vs (.slice aB l1.jH.length cB) vl (w2.setCell (Ad L 3) (.slice (some (Ad g 0)) (l1.jH.length+1) cap)) (.slice aS (len+1) cS) (.slice (some (Ad g 0)) (l1.jH.length+1) cap) vl/\
  w2.cell? (Ad L 3)=some (.slice aB l1.jH.length cB)/\w2.frozen? (Ad L 3)=false):=by
  intro o k w2 g cap hg ho hat;have hW:=(h1.alloc o).drewN k;have hsz:((w1.alloc o).drewN k).heap.size=w1.heap.size+1:=by simp
  obtain⟨g1,g2,g3,g4⟩:=hW.SV hg (kL:=.slice (some (Ad g 0)) (l1.jH.length+1) cap) (blocks':=l1.jH++[⟨len,0,0,0⟩]) (by
   have e1:(l1.jH++[(⟨len,0,0,0⟩:Bk)]).length=l1.jH.length+1:=by simp
   have e2:(l1.jH++[(⟨len,0,0,0⟩:Bk)]).flatMap rQ=l1.jH.flatMap rQ++[Im len,Im 0,Im 0,Im 0]:=by simp[rQ]
   rw[e1,e2];exact ho) (λg' hg'=>by
   have:g=g':=by simpa [Value.ownBlock]using hg'
   subst this;rcases hat with h5|h5
   .exact jf h5
   .exact je (by rw[hsz];omega))
  rw[HO.out];exact⟨g1,m1.trans ((jT.grow L w1 _ _ _ (w':=(w1.alloc o).drewN k) ((ah w1 o none).trans ⟨rfl,rfl,rfl,aj _,λ_ _ _=>rfl⟩)).trans g2),g3,g4⟩
 have HW:=jA (λ(o:Obj)(k:Nat)=>((h1.alloc o).drewN k).jH);have c2:=h1.c2;have c3:=h1.c3;have hL1:=h1.lt;have hmx:l1.jH.length+1<=maxLen:=by have:=xM.out;unfold maxLen;omega
 have hby:(l1.jH.length+1) * 32<=140737488355328:=by have:=xM.out;omega
 have n2:¬L=w1.heap.size:=by omega
 have hBw:B<=w1.heap.size:=by omega
 clear h1 m1 HA;generalize l1.jH.flatMap rQ=cells at *;have hwr:IntKind.i64.wrap (len:Int)=(len:Int):=by rw[IntKind.wrap_i64];omega
 go_wp2_with fail;go_region_law ((refine step_append_lies _ (by rfl) _ _ _ (by rfl) B 226 i0 _ 4 32 Tryz.underlying149 hi0 hz0 hz1 hz2 (by rfl) (by omega) (.slice aB l1.jH.length cB) l1.jH.length cells (by rfl) (HW.out _ 1) (Ad w1.heap.size 0) 1 1 [Im len,Im 0,Im 0,Im 0] (by rfl) (by rfl) (fM (cs:=#[Im len,Im 0,Im 0,Im 0]) (t:=226) (fr:=(0,0)) (aY w1 _)) (by simp[Value.oneCell']) (by omega) hmx hby (by simp;omega) (w1.heap.size+1) (by simp) ?_;intro gg cap1 w3 hown1 hgrow hat hlt;have hu3:=(HP.out _ 1 _ _ _ hgrow hown1 hat).2.2.1;have hf3:=(HP.out _ 1 _ _ _ hgrow hown1 hat).2.2.2));all_goals
  have hm:=(HP.out _ 1 _ _ _ hgrow hown1 hat).1;have hv:=(HP.out _ 1 _ _ _ hgrow hown1 hat).2.1;clear hown1 hgrow hat hlt;go_wp2;go_end0;exact⟨rfl,_,_,hm,hv⟩
end
end
section
abbrev cu:=@Go.bodyPost_ret
end
section
open Go.RowKit
open Hx (St Bk Ls jJ)
attribute [local go_sem ↓] Go.wp_at_zero Go.wp_at_succ
section
variable {B:Nat}{w:jk}{L:Nat}{s:ji}{l:Ls}{vs vb vl:jm}
theorem kP(w:jk)(n:Nat)(x:Addr)(u:jm):(w.drewN n).setCell x u=(w.setCell x u).drewN n:=rfl
attribute [local go_sem] kP
theorem jS.acZ(h:jS B w L s l vs vb vl){init:List Int}{x:Int}(hx:l.jV=init++[x]):
 ∃g cap,vl=.slice (some (Ad g 0)) (init.length+1) cap/\g<w.heap.size/\w.cell? (Ad g init.length)=some (Im x):=by
 have hrow:=h.jV;have hlen:l.jV.length=init.length+1:=by rw[hx];simp
 rcases hrow.2 with⟨h1,h2⟩|⟨g,cap,cur,h1,h2,h3⟩
 .omega
 .refine⟨g,cap,by rw[h1,hlen],(hrow.lt g (by rw[h1];rfl)).2,?_⟩;rw[h1]at hrow;rw[hrow.cellAt _ (by omega),hx];simp
theorem asJ(h:jS B w L s l vs vb vl)(hl:l.jV=[])(q a b c d dp t:Int):
 Calls prog 117 #[Pt L 0,.agg #[.int .u8 q,Im a,Im b,Im c,Im d,Im dp,Im t]] w λe w'=>e=.returned (.tuple #[])/\
  jS B w' L s {l with bad:=true} vs vb vl/\jT L w vs vb vl w' vs vb vl:=by
 have HP:Hid (∀o,jS B ((w.setCell (Ad L 7) (.bool true)).alloc o) L s {l with bad:=true} vs vb vl/\jT L w vs vb vl ((w.setCell (Ad L 7) (.bool true)).alloc o) vs vb vl):=λo=>
  ⟨h.Ig.alloc o,(jT.own L w vs vb vl 7 (.bool true)).trans (jT.grow L _ vs vb vl (ah _ o none))⟩
 obtain⟨a0,c0,rfl⟩:=Cm h.jV;have c4:=h.c4;have c7:=h.c7;have f7:=h.fr 7;have hL:=h.lt;have n1:¬L=w.heap.size:=by omega
 have hlen:l.jV.length=0:=by rw[hl];rfl
 clear h hl;generalize l.jV.length=n at *;subst hlen;go_enter func117,ntmps117;go_wp2;exact cu (v:=.tuple #[]) (by simp[results,Tryz.results117,go_sem]) rfl ⟨rfl,HP.out _⟩
theorem asL(h:jS B w L s l vs vb vl)(hne:l.jH≠[])(hlb:l.jH.length<=900000)(hls:l.jB.length<=900000)(hll:l.jV.length<=900000)(init:List Int)(x:Int)(hx:l.jV=init++[x])(q a b c d dp t:Int):
 Calls prog 117 #[Pt L 0,.agg #[.int .u8 q,Im a,Im b,Im c,Im d,Im dp,Im t]] w λe w'=>e=.returned (.tuple #[])/\
  ∃vs',jS B w' L s (mM l ⟨q,a,b,c,d,dp,x⟩) vs' vb vl/\jT L w vs vb vl w' vs' vb vl:=by
 obtain⟨g,cap,rfl,hg,cg⟩:=h.acZ hx;have hlen:l.jV.length=init.length+1:=by rw[hx];simp
 have HA:Hid (∀o k,Calls prog 118 #[Pt L 0,.agg #[.int .u8 q,Im a,Im b,Im c,Im d,Im dp,Im x]] ((w.alloc o).drewN k) λe w'=>e=.returned (.tuple #[])/\
  ∃vs',jS B w' L s (mM l ⟨q,a,b,c,d,dp,x⟩) vs' vb (.slice (some (Ad g 0)) (init.length+1) cap)/\jT L w vs vb (.slice (some (Ad g 0)) (init.length+1) cap) w' vs' vb (.slice (some (Ad g 0)) (init.length+1) cap)):=λo k=>by
  refine(IZ ((h.alloc o).drewN k) hne (by omega) (by omega) q a b c d dp x).mono ?_;rintro e w' ⟨h1,vs',h2,h3⟩;exact⟨h1,vs',h2,(jT.grow L w _ _ _ (w':=(w.alloc o).drewN k) ((ah w o none).trans ⟨rfl,rfl,rfl,aj _,λ_ _ _=>rfl⟩)).trans h3⟩
 have c4:=h.c4;have hL:=h.lt;have n1:¬L=w.heap.size:=by omega
 have n2:¬g=w.heap.size:=by omega
 have hi:init.length<=900000:=by omega
 clear h hx hlen hne;generalize init.length=n at *;have hne0:(((n:Int)+1)==0)=false:=by simp;omega
 have i1:(0:Int)<=(n:Int):=by omega
 go_enter func117,ntmps117;go_wp2_with fail;refine nP 13 (by kernel_rfl) (by kernel_rfl) ?_;simp only[aC,aO,aG,aQ];repeat (go_big_quiet_step (fail))
 refine bF ?_;intro _ hw';obtain⟨k3,hw''⟩:=hw';subst hw'';go_wp2_with fail;refine(HA.out _ k3).mono ?_;rintro e w1 ⟨rfl,vs',h1,h2⟩;go_wp2;go_end0;exact⟨rfl,vs',h1,h2⟩
end
section
variable {B:Nat}{w:jk}{L:Nat}{s:ji}{l:Ls}{vs vb vl:jm}
theorem ao1(h:jS B w L s l vs vb vl)(hl:l.jV.length=8)(q a b c d dp t:Int):
 Calls prog 114 #[Pt L 0,.agg #[.int .u8 q,Im a,Im b,Im c,Im d,Im dp,Im t]] w λe w'=>e=.returned (.tuple #[])/\
  jS B w' L s {l with bad:=true} vs vb vl/\jT L w vs vb vl w' vs vb vl:=by
 have HP:Hid (∀o,jS B ((w.setCell (Ad L 7) (.bool true)).alloc o) L s {l with bad:=true} vs vb vl/\jT L w vs vb vl ((w.setCell (Ad L 7) (.bool true)).alloc o) vs vb vl):=λo=>
  ⟨h.Ig.alloc o,(jT.own L w vs vb vl 7 (.bool true)).trans (jT.grow L _ vs vb vl (ah _ o none))⟩
 obtain⟨a0,c0,rfl⟩:=Cm h.jV;have c4:=h.c4;have c7:=h.c7;have f7:=h.fr 7;have hL:=h.lt;have n1:¬L=w.heap.size:=by omega
 clear h;generalize l.jV.length=n at *;subst hl;go_enter func114,ntmps114;go_wp2;exact cu (v:=.tuple #[]) (by simp[results,Tryz.results114,go_sem]) rfl ⟨rfl,HP.out _⟩
theorem ao2(h:jS B w L s l vs vb vl)(hne:l.jH≠[])(hlb:l.jH.length<=900000)(hls:l.jB.length<=900000)(hll:l.jV.length<8)(q a b c d dp t:Int):
 Calls prog 114 #[Pt L 0,.agg #[.int .u8 q,Im a,Im b,Im c,Im d,Im dp,Im t]] w λe w'=>e=.returned (.tuple #[])/\
  ∃vs' kL lC,jS B w' L s (Hy l ⟨q,a,b,c,d,dp,t⟩) vs' kL lC/\jT L w vs vb vl w' vs' kL lC:=by
 obtain⟨i0,hi0,hz0,hz1,hz2⟩:=info_parts acj;obtain⟨aL,cL,rfl⟩:=Cm h.jV;have HA:Hid (∀o,Calls prog 113 #[Pt L 0,.agg #[.int .u8 q,Im a,Im b,Im c,Im d,Im l.jV.length,Im t]] (w.alloc o) λe w'=>e=.returned (.tuple #[])/\
  ∃vs' kL,jS B w' L s (xA l ⟨q,a,b,c,d,l.jV.length,t⟩) vs' kL (.slice aL l.jV.length cL)/\jT L w vs vb (.slice aL l.jV.length cL) w' vs' kL (.slice aL l.jV.length cL)):=λo=>by
  refine(aee (h.alloc o) hne hlb hls q a b c d l.jV.length t).mono ?_;rintro e w' ⟨h1,vs',kL,h2,h3⟩;exact⟨h1,vs',kL,h2,(jT.grow L w _ _ _ (ah w o none)).trans h3⟩
 have hl2:(xA l ⟨q,a,b,c,d,l.jV.length,t⟩).jB.length=l.jB.length+1:=by
  show(l.jB++[_]).length=_;simp
 have hl3:(xA l ⟨q,a,b,c,d,l.jV.length,t⟩).jV=l.jV:=rfl;have HO:Hid (Hy l ⟨q,a,b,c,d,dp,t⟩={xA l ⟨q,a,b,c,d,l.jV.length,t⟩with jV:=l.jV++[(l.jB.length:Int)]}):=rfl;have c4:=h.c4;have hL:=h.lt;have hBL:=h.bL;clear h hne hlb;generalize Hy l ⟨q,a,b,c,d,dp,t⟩=l2 at *;generalize xA l ⟨q,a,b,c,d,l.jV.length,t⟩=l1 at *;have HL2:=jA hl2;have wV:=jA hl3;clear hl2 hl3;have n1:¬L=w.heap.size:=by omega
 have h8:((l.jV.length:Int)==8)=false:=by simp;omega
 go_enter func114,ntmps114;go_wp2_with fail;refine(HA.out _).mono ?_;rintro e w1 ⟨rfl,vs1,vb1,h1,m1⟩;obtain⟨aS,cS,hvs⟩:=Cm h1.jB;rw[HL2.out]at hvs;subst hvs;have HP:Hid (∀(o:Obj)(k:Nat)(w2:jk)(g cap:Nat),((w1.alloc o).drewN k).grownBy w2 (Value.slice aL l.jV.length cL).ownBlock->
  w2.ownsRow B 3 1 (.slice (some (Ad g 0)) (l.jV.length+1) cap) (l.jV.length+1) (l.jV.map (Value.int .i64)++[Im l.jB.length])->
  ((Value.slice aL l.jV.length cL).ownBlock=some g\/g=w1.heap.size+1)->
  jS B (w2.setCell (Ad L 4) (.slice (some (Ad g 0)) (l.jV.length+1) cap)) L s l2 (.slice aS (l.jB.length+1) cS) vb1 (.slice (some (Ad g 0)) (l.jV.length+1) cap)/\
  jT L w vs vb (.slice aL l.jV.length cL) (w2.setCell (Ad L 4) (.slice (some (Ad g 0)) (l.jV.length+1) cap)) (.slice aS (l.jB.length+1) cS) vb1 (.slice (some (Ad g 0)) (l.jV.length+1) cap)/\
  w2.cell? (Ad L 4)=some (.slice aL l.jV.length cL)/\w2.frozen? (Ad L 4)=false):=by
  intro o k w2 g cap hg ho hat;have hW:=(h1.alloc o).drewN k;have hsz:((w1.alloc o).drewN k).heap.size=w1.heap.size+1:=by simp
  obtain⟨g1,g2,g3,g4⟩:=hW.adl hg (lC:=.slice (some (Ad g 0)) (l.jV.length+1) cap) (loops':=l.jV++[(l.jB.length:Int)]) (by
   have e1:(l.jV++[(l.jB.length:Int)]).length=l.jV.length+1:=by simp
   have e2:(l.jV++[(l.jB.length:Int)]).map (Value.int .i64)=l.jV.map (Value.int .i64)++[Im l.jB.length]:=by simp
   rw[e1,e2];exact ho) (λg' hg'=>by
   have:g=g':=by simpa [Value.ownBlock]using hg'
   subst this;rcases hat with h5|h5
   .exact jf h5
   .exact je (by rw[hsz];omega))
  rw[HO.out];exact⟨g1,m1.trans ((jT.grow L w1 _ _ _ (w':=(w1.alloc o).drewN k) ((ah w1 o none).trans ⟨rfl,rfl,rfl,aj _,λ_ _ _=>rfl⟩)).trans g2),g3,g4⟩
 have HW:Hid (∀(o:Obj)(k:Nat),((w1.alloc o).drewN k).ownsRow B 3 1 (.slice aL l.jV.length cL) l.jV.length (l.jV.map (Value.int .i64))):=λo k=>by
  have:=((h1.alloc o).drewN k).jV;rw[wV.out]at this;exact this
 have d2:=h1.c2;have d4:=h1.c4;have hL1:=h1.lt;have hmx:l.jV.length+1<=maxLen:=by unfold maxLen;omega
 have hby:(l.jV.length+1) * 8<=140737488355328:=by omega
 have n2:¬L=w1.heap.size:=by omega
 have hBw:B<=w1.heap.size:=by omega
 have hwr:IntKind.i64.wrap (l.jB.length:Int)=(l.jB.length:Int):=by rw[IntKind.wrap_i64];omega
 clear h1 m1 HA c4;generalize l.jV.map (Value.int .i64)=cells at *;go_wp2_with fail;go_region_law ((refine step_append_lies _ (by rfl) _ _ _ (by rfl) B 3 i0 _ 1 8 Tryz.underlying91 hi0 hz0 hz1 hz2 (by rfl) (by omega) (.slice aL l.jV.length cL) l.jV.length cells (by rfl) (HW.out _ 1) (Ad w1.heap.size 0) 1 1 [Im l.jB.length] (by rfl) (by rfl) (fM (cs:=#[Im l.jB.length]) (t:=3) (fr:=(0,0)) (aY w1 _)) (by simp[Value.oneCell']) (by omega) hmx hby (by simp;omega) (w1.heap.size+1) (by simp) ?_;intro gg cap1 w3 hown1 hgrow hat hlt;have hu3:=(HP.out _ 1 _ _ _ hgrow hown1 hat).2.2.1;have hf3:=(HP.out _ 1 _ _ _ hgrow hown1 hat).2.2.2));all_goals
  have hm:=(HP.out _ 1 _ _ _ hgrow hown1 hat).1;have hv:=(HP.out _ 1 _ _ _ hgrow hown1 hat).2.1;clear hown1 hgrow hat hlt;go_wp2;go_end0;exact⟨rfl,_,_,_,hm,hv⟩
end
end
section
open Go.RowKit
open Hx (St Bk Ls jJ)
section
variable {B:Nat}{w:jk}{L:Nat}{s:ji}{l:Ls}{vs vb vl:jm}
theorem Q8(l:List St):(l.flatMap wS).length=7 * l.length:=by
 induction l with
 |nil=>rfl
 |cons b bs ih=>simp only[c8,aA,ih,aF,wS,bg];omega
theorem agc(l:List St)(i:Nat)(st:St)(h:l[i]? =some st):∃a b,l=a++st::b/\a.length=i:=by
 have hi:i<l.length:=by
  rcases dG i l.length with h'|h'
  .exact h'
  .rw[bV h']at h;cases h
 refine⟨l.take i,l.drop (i+1),?_,by simp;omega⟩;have e:l[i]=st:=by rw[bU hi]at h;exact fZ h
 rw[<-e,List.getElem_cons_drop,List.take_append_drop]
theorem asX(l:List St)(i:Nat)(st:St)(h:l[i]? =some st)(j:Nat)(hj:j<7):(l.flatMap wS)[i * 7+j]? =(wS st)[j]? :=by
 obtain⟨a,b,rfl,rfl⟩:=agc l i st h;simp only[gu,c8];rw[bW (by rw[Q8];omega),Q8,aT (by simp[wS];omega)]
 congr 1
 omega
theorem asZ(l:List St)(i:Nat)(st:St)(h:l[i]? =some st)(x:Int):(l.flatMap wS).set (i * 7+6) (Im x)=(l.set i {st with jY:=x}).flatMap wS:=by
 obtain⟨a,b,rfl,rfl⟩:=agc l i st h;simp only[gu,c8];rw[iw _ _ (by rw[Q8];omega),Q8,show a.length * 7+6-7 * a.length=6 by omega,List.set_append_left _ _ (by simp[wS]),iw _ _ (aj _)];simp[wS]
theorem jS.CG(h:jS B w L s l vs vb vl){i:Nat}{st:St}(hst:l.jB[i]? =some st):
 ∃g cap,vs=.slice (some (Ad g 0)) l.jB.length cap/\g<w.heap.size/\¬g=L/\some g≠vb.ownBlock/\some g≠vl.ownBlock/\i<l.jB.length/\zG w g (i * 7) st/\(∀j,w.frozen? (Ad g j)=false):=by
 have hi:i<l.jB.length:=by
  rcases dG i l.jB.length with h'|h'
  .exact h'
  .rw[bV h']at hst;cases hst
 have hrow:=h.jB;have hns:=h.ns;have hsb:=h.sb;have hsl:=h.sl;rcases hrow.2 with⟨h1,h2⟩|⟨g,cap,cur,h1,h2,h3⟩
 .omega
 .have hlt:=(hrow.lt g (by rw[h1];rfl)).2;rw[h1]at hrow hns hsb hsl;have hc:∀j,j<7->w.cell? (Ad g (i * 7+j))=(wS st)[j]? :=λj hj=>by
   rw[hrow.cellAt _ (by omega)];exact asX _ _ _ hst j hj
  refine⟨g,cap,h1,hlt,λe=>hns (by rw[<-e];rfl),?_,?_,hi,⟨hc 0 (by omega),hc 1 (by omega),hc 2 (by omega),hc 3 (by omega),hc 4 (by omega),hc 5 (by omega),hc 6 (by omega)⟩,λj=>hrow.frozenAt j⟩
  .rcases hsb with e|e
   .cases e
   .exact e
  .rcases hsl with e|e
   .cases e
   .exact e
theorem jS.QG{g cap:Nat}(h:jS B w L s l (.slice (some (Ad g 0)) l.jB.length cap) vb vl){i:Nat}{st:St}(hst:l.jB[i]? =some st)(x:Int):
 jS B (w.setCell (Ad g (i * 7+6)) (Im x)) L s {l with jB:=l.jB.set i {st with jY:=x}} (.slice (some (Ad g 0)) l.jB.length cap) vb vl/\
 jT L w (.slice (some (Ad g 0)) l.jB.length cap) vb vl (w.setCell (Ad g (i * 7+6)) (Im x)) (.slice (some (Ad g 0)) l.jB.length cap) vb vl:=by
 have uT:¬g=L:=λe=>h.ns (by rw[<-e];rfl);have hc:∀k,(w.setCell (Ad g (i * 7+6)) (Im x)).cell? (Ad L k)=w.cell? (Ad L k):=λk=>bG _ _ _ _ (by intro e;cases e;exact uT rfl);have hrow:=h.jB;have hst2:=hrow.stored (i * 7+6) (Im x);rw[asZ l.jB i st hst x]at hst2;refine⟨⟨h.bL,by rw[hc];exact h.c0,by rw[hc];exact h.c1,by rw[hc];exact h.c2,by rw[hc];exact h.c3,by rw[hc];exact h.c4,by rw[hc];exact h.c5,by rw[hc];exact h.c6,by rw[hc];exact h.c7,λj=>by rw[dX];exact h.fr j,
  ?_,h.jH.kept hst2.2 (Ea h.sb),h.jV.kept hst2.2 (Ea h.sl),h.ns,h.nb,h.nl,h.sb,h.sl,h.bl⟩,
  ⟨rfl,rfl,rfl,by simp,λk _ _ h2 _ _=>bC _ _ _ _ (λe=>h2 (by rw[e];rfl)),λ_ h=>jf h,λ_ h=>jf h,λ_ h=>jf h⟩⟩
 have:=hst2.1;simpa using this
theorem aeu{e:jo}{size g n cap:Nat}{xs:List jm}(h:w.ownsRow B e size (.slice (some (Ad g 0)) (n+1) cap) (n+1) xs):w.ownsRow B e size (.slice (some (Ad g 0)) n cap) n (xs.take (n * size)):=by
 obtain⟨h1,h2⟩:=h;rcases h2 with⟨h3,_⟩|⟨g',cap',cur,h3,h4,h5,h6,h7,h8,h9⟩
 .cases h3
 .obtain⟨rfl,rfl⟩:g=g'/\cap=cap':=by simpa using h3
  have hle:n * size<=(n+1) * size:=gQ _ (by omega);refine⟨by rw[gI,h1];omega,je ⟨g,cap,cur,rfl,h4,h5,by omega,h7,h8,?_⟩⟩;rw[<-h9,List.take_take,Nat.min_eq_left hle]
end
end
section
open Go.RowKit
open Hx (St Bk Ls jJ)
attribute [local go_sem ↓] Go.wp_at_zero Go.wp_at_succ
attribute [local go_sem] kP
section
variable {B:Nat}{w:jk}{L:Nat}{s:ji}{l:Ls}{vs vb vl:jm}
theorem jS.VR{g cap:Nat}{init:List Bk}{b:Bk}(h:jS B w L s l vs (.slice (some (Ad g 0)) (init.length+1) cap) vl)(hb:l.jH=init++[b]):
 jS B (w.setCell (Ad L 3) (.slice (some (Ad g 0)) init.length cap)) L s {l with jH:=init} vs (.slice (some (Ad g 0)) init.length cap) vl/\
 jT L w vs (.slice (some (Ad g 0)) (init.length+1) cap) vl (w.setCell (Ad L 3) (.slice (some (Ad g 0)) init.length cap)) vs (.slice (some (Ad g 0)) init.length cap) vl:=by
 have hlen:l.jH.length=init.length+1:=by rw[hb];simp
 have ho:=h.jH;rw[hlen]at ho;have ho2:=aeu ho;have e:(l.jH.flatMap rQ).take (init.length * 4)=init.flatMap rQ:=by
  rw[hb,gu,List.take_left' (by rw[GN];omega)]
 rw[e]at ho2;obtain⟨g1,g2,_,_⟩:=h.SV (w1:=w) ⟨rfl,rfl,rfl,aj _,λ_ _ _=>rfl⟩ ho2 (λg' hg'=>jf hg');exact⟨g1,g2⟩
theorem jS.apB{g cap:Nat}{init:List Int}{x:Int}(h:jS B w L s l vs vb (.slice (some (Ad g 0)) (init.length+1) cap))(hx:l.jV=init++[x]):
 jS B (w.setCell (Ad L 4) (.slice (some (Ad g 0)) init.length cap)) L s {l with jV:=init} vs vb (.slice (some (Ad g 0)) init.length cap)/\
 jT L w vs vb (.slice (some (Ad g 0)) (init.length+1) cap) (w.setCell (Ad L 4) (.slice (some (Ad g 0)) init.length cap)) vs vb (.slice (some (Ad g 0)) init.length cap):=by
 have hlen:l.jV.length=init.length+1:=by rw[hx];simp
 have ho:=h.jV;rw[hlen]at ho;have ho2:=aeu ho;have e:(l.jV.map (Value.int .i64)).take (init.length * 1)=init.map (Value.int .i64):=by
  rw[hx,dF,List.take_left' (by simp)]
 rw[e]at ho2;obtain⟨g1,g2,_,_⟩:=h.adl (w1:=w) ⟨rfl,rfl,rfl,aj _,λ_ _ _=>rfl⟩ ho2 (λg' hg'=>jf hg');exact⟨g1,g2⟩
theorem lK(w:jk)(k:Nat):w.grownBy (w.drewN k) none:=⟨rfl,rfl,rfl,aj _,λ_ _ _=>rfl⟩
theorem Qv{e:jo}{size n cap:Nat}{a:Option Addr}{xs:List jm}(h:w.ownsRow B e size (.slice a n cap) n xs):n<=cap/\cap<=maxLen:=by
 rcases h.2 with⟨h3,h4⟩|⟨g',cap',cur,h3,h4,h5,h6,h7,h8⟩
 .cases h3;exact⟨aj _,bD _⟩
 .cases h3;exact⟨h6,h7⟩
theorem akh(h:jS B w L s l vs vb vl)(init:List Bk)(b:Bk)(hb:l.jH=init++[b])(hne:init≠[])(hlb:l.jH.length<=900000)
 (p:Nat)(st:St)(hst:l.jB[p]? =some st)(hp:0<p)(ho:b.other=p):
 Calls prog 171 #[Pt L 0,.agg #[Im b.opener,Im b.other,Im b.jC,Im b.before]] w λe w'=>e=.returned (.tuple #[])/\
  ∃kL,jS B w' L s (tX l p st init b) vs kL vl/\jT L w vs vb vl w' vs kL vl:=by
 obtain⟨gs,cs,rfl,hgs,zN,hgb,hgl,hps,hat,hfr⟩:=h.CG hst;obtain⟨gb,cb,hvb⟩:∃gb cb,vb=.slice (some (Ad gb 0)) (init.length+1) cb:=by
  obtain⟨g,cap,init',b',e1,_⟩:=h.inner (by rw[hb];simp);exact⟨g,cap,by rw[e1,hb];simp⟩
 subst hvb;have HP:Hid (∀o k z,z=max b.jC b.before->Calls prog 172 #[Pt L 0,Im z] ((((w.setCell (Ad gs (p * 7+6)) (Im l.jB.length)).setCell (Ad L 3) (.slice (some (Ad gb 0)) init.length cb)).alloc o).drewN k) λe w'=>e=.returned (.tuple #[])/\
  jS B w' L s (tX l p st init b) (.slice (some (Ad gs 0)) l.jB.length cs) (.slice (some (Ad gb 0)) init.length cb) vl/\
  jT L w (.slice (some (Ad gs 0)) l.jB.length cs) (.slice (some (Ad gb 0)) (init.length+1) cb) vl w' (.slice (some (Ad gs 0)) l.jB.length cs) (.slice (some (Ad gb 0)) init.length cb) vl):=λo k z hz=>by
  subst hz;obtain⟨h2,m2⟩:=h.QG hst (l.jB.length:Int);obtain⟨h4,m4⟩:=h2.VR (init:=init) (b:=b) hb;have h5:=(h4.alloc o).drewN k
  refine(OD h5 hne (by have:l.jH.length=init.length+1:=by rw[hb];simp
                       show init.length<=_;omega) (max b.jC b.before)).mono ?_
  rintro e w' ⟨h6,h7,h8⟩;exact⟨h6,h7,m2.trans (m4.trans ((jT.grow L _ _ _ _ (ah _ o none)).trans (jT.trans (jT.grow L _ _ _ _ (lK _ k)) h8)))⟩
 have c2:=h.c2;have c3:=h.c3;have f3:=h.fr 3;have f6:=hfr (p * 7+6);have a6:=hat.2.2.2.2.2.2;have abP:¬L=gs:=λe=>zN e.symm;have hlen:l.jH.length=init.length+1:=by rw[hb];simp
 have hin:init.length<=900000:=by omega
 have hcap:init.length<=cb:=by
  have h9:=h.jH;rw[hlen]at h9;have:=Qv h9;omega
 have hL:=h.lt;have n1:¬L=w.heap.size:=by omega
 have n2:¬gs=w.heap.size:=by omega
 have ho':decide (0<b.other)=true:=by rw[ho];simp;omega
 clear h hb hne hat hfr hlen hst;rw[ho]at ho'⊢;clear ho;generalize tX l p st init b=l' at *;generalize init.length=n at *;generalize l.jB.length=m at *;have i0:(0:Int)<=(p:Int):=by omega
 have i1:(p:Int)<(m:Int):=by omega
 have i2:(0:Int)<=(n:Int):=by omega
 have i3:(n:Int)<=(cb:Int):=by omega
 generalize b.jC=x at *;generalize b.before=y at *;go_enter func171,ntmps171;go_wp2_with fail;refine nP 12 (by kernel_rfl) (by kernel_rfl) ?_;simp only[aC,aO,aG,aQ];repeat (go_big_quiet_step (fail))
 refine bF ?_;intro _ hw';obtain⟨k1,hw''⟩:=hw';subst hw'';go_wp2_with fail;refine nP 14 (by kernel_rfl) (by kernel_rfl) ?_;simp only[aC,aO,aG,aQ];repeat (go_big_quiet_step (fail))
 refine bF ?_;intro _ hw';obtain⟨k2,hw''⟩:=hw';subst hw'';go_wp2_with fail;all_goals
  refine(HP.out _ _ _ (by omega)).mono ?_;rintro e w1 ⟨rfl,h1,h2⟩;go_wp2;go_end0;exact⟨rfl,_,h1,h2⟩
theorem akg(h:jS B w L s l vs vb vl)(init:List Bk)(b:Bk)(hb:l.jH=init++[b])(hne:init≠[])(hlb:l.jH.length<=900000)
 (p:Nat)(st:St)(hst:l.jB[p]? =some st)(hp:¬0<b.other)(ho:b.opener=p):
 Calls prog 171 #[Pt L 0,.agg #[Im b.opener,Im b.other,Im b.jC,Im b.before]] w λe w'=>e=.returned (.tuple #[])/\
  ∃kL,jS B w' L s (tX l p st init b) vs kL vl/\jT L w vs vb vl w' vs kL vl:=by
 obtain⟨gs,cs,rfl,hgs,zN,hgb,hgl,hps,hat,hfr⟩:=h.CG hst;obtain⟨gb,cb,hvb⟩:∃gb cb,vb=.slice (some (Ad gb 0)) (init.length+1) cb:=by
  obtain⟨g,cap,init',b',e1,_⟩:=h.inner (by rw[hb];simp);exact⟨g,cap,by rw[e1,hb];simp⟩
 subst hvb;have HP:Hid (∀o k z,z=max b.jC b.before->Calls prog 172 #[Pt L 0,Im z] ((((w.setCell (Ad gs (p * 7+6)) (Im l.jB.length)).setCell (Ad L 3) (.slice (some (Ad gb 0)) init.length cb)).alloc o).drewN k) λe w'=>e=.returned (.tuple #[])/\
  jS B w' L s (tX l p st init b) (.slice (some (Ad gs 0)) l.jB.length cs) (.slice (some (Ad gb 0)) init.length cb) vl/\
  jT L w (.slice (some (Ad gs 0)) l.jB.length cs) (.slice (some (Ad gb 0)) (init.length+1) cb) vl w' (.slice (some (Ad gs 0)) l.jB.length cs) (.slice (some (Ad gb 0)) init.length cb) vl):=λo k z hz=>by
  subst hz;obtain⟨h2,m2⟩:=h.QG hst (l.jB.length:Int);obtain⟨h4,m4⟩:=h2.VR (init:=init) (b:=b) hb;have h5:=(h4.alloc o).drewN k
  refine(OD h5 hne (by have:l.jH.length=init.length+1:=by rw[hb];simp
                       show init.length<=_;omega) (max b.jC b.before)).mono ?_
  rintro e w' ⟨h6,h7,h8⟩;exact⟨h6,h7,m2.trans (m4.trans ((jT.grow L _ _ _ _ (ah _ o none)).trans (jT.trans (jT.grow L _ _ _ _ (lK _ k)) h8)))⟩
 have c2:=h.c2;have c3:=h.c3;have f3:=h.fr 3;have f6:=hfr (p * 7+6);have a6:=hat.2.2.2.2.2.2;have abP:¬L=gs:=λe=>zN e.symm;have hlen:l.jH.length=init.length+1:=by rw[hb];simp
 have hin:init.length<=900000:=by omega
 have hcap:init.length<=cb:=by
  have h9:=h.jH;rw[hlen]at h9;have:=Qv h9;omega
 have hL:=h.lt;have n1:¬L=w.heap.size:=by omega
 have n2:¬gs=w.heap.size:=by omega
 have ho':decide (0<b.other)=false:=by simpa using hp
 clear h hb hne hat hfr hlen hst;rw[ho];clear ho hp;generalize tX l p st init b=l' at *;generalize init.length=n at *;generalize l.jB.length=m at *;have i0:(0:Int)<=(p:Int):=by omega
 have i1:(p:Int)<(m:Int):=by omega
 have i2:(0:Int)<=(n:Int):=by omega
 have i3:(n:Int)<=(cb:Int):=by omega
 generalize b.jC=x at *;generalize b.before=y at *;go_enter func171,ntmps171;go_wp2_with fail;refine nP 12 (by kernel_rfl) (by kernel_rfl) ?_;simp only[aC,aO,aG,aQ];repeat (go_big_quiet_step (fail))
 refine bF ?_;intro _ hw';obtain⟨k1,hw''⟩:=hw';subst hw'';go_wp2_with fail;refine nP 14 (by kernel_rfl) (by kernel_rfl) ?_;simp only[aC,aO,aG,aQ];repeat (go_big_quiet_step (fail))
 refine bF ?_;intro _ hw';obtain⟨k2,hw''⟩:=hw';subst hw'';go_wp2_with fail;all_goals
  refine(HP.out _ _ _ (by omega)).mono ?_;rintro e w1 ⟨rfl,h1,h2⟩;go_wp2;go_end0;exact⟨rfl,_,h1,h2⟩
end
end
end Go.Proofs.YthllhabjfchgiaaGreatDoor
