import Derived.Test.YthllhabjfchgiaaGreatDoorHb02
import Derived.Deep.RegionLaw
import Derived.Deep.DrawnRows
set_option maxRecDepth 100000
set_option maxHeartbeats 8000000
set_option linter.unusedSimpArgs false
namespace Go.Proofs.YthllhabjfchgiaaGreatDoor
open _root_.Go.Proofs.Tryz
section
open Go.RowKit
open Hx (St Bk Ls jO)
section
variable {B:Nat}{w:jo}{L:Nat}{s:jm}{l:Ls}{vs vb vl:jr}{aS:Option Addr}{nS cS g n cap:Nat}
theorem He(bs:List Bk):(bs.flatMap rH).length=4 * bs.length:=by
 induction bs with
 |nil=>rfl
 |cons b bs ih=>simp only[c8,aA,ih,aF,rH,bg];omega
theorem jT.inner(h:jT B w L s l vs vb vl)(hne:l.jI≠[]):
 ∃g cap init b,vb=.slice (some (Ad g 0)) l.jI.length cap/\l.jI=init++[b]/\l.top=b/\¬g=L/\B<=g/\g<w.heap.size/\some g≠vs.ownBlock/\some g≠vl.ownBlock/\
  w.cell? (Ad g (init.length * 4))=some (Im b.opener)/\w.cell? (Ad g (init.length * 4+1))=some (Im b.other)/\
  w.cell? (Ad g (init.length * 4+2))=some (Im b.jD)/\w.cell? (Ad g (init.length * 4+3))=some (Im b.before)/\(∀j,w.frozen? (Ad g j)=false):=by
 obtain⟨init,b,hb⟩:∃init b,l.jI=init++[b]:=⟨_,_,(List.dropLast_concat_getLast hne).symm⟩;have hrow:=h.jI;rcases hrow.2 with⟨h1,h2⟩|⟨g,cap,cur,h1,h2,h3⟩
 .rw[hb]at h2;simp at h2
 .have hlt:=hrow.lt g (by rw[h1];rfl);have hnb:=h.nb;have hsb:=h.sb;have hbl:=h.bl;rw[h1]at hrow hnb hsb hbl;have hcell:∀j,j<4->w.cell? (Ad g (init.length * 4+j))=(rH b)[j]? :=λj hj=>by
   rw[hrow.cellAt _ (by rw[hb];simp;omega),hb];simp only[gu,c8,dJ,aX];rw[bW (by rw[He];omega),He]
   congr 1
   omega
  refine⟨g,cap,init,b,h1,hb,by simp[Hx.Ls.top,hb],λe=>hnb (by rw[<-e];rfl),h2,hlt.2,?_,?_,hcell 0 (by omega),hcell 1 (by omega),hcell 2 (by omega),hcell 3 (by omega),λj=>hrow.frozenAt j⟩
  .rcases hsb with e|e
   .rw[e];simp
   .exactλe'=>e e'.symm
  .rcases hbl with e|e
   .cases e
   .exact e
theorem BI(L g n cap:Nat)(w:jo)(hc:w.cell? (Ad L 3)=some (.slice (some (Ad g 0)) (n+1) cap))(hn:n<=1000000):
 Calls prog 168 #[Pt L 0] w λe w'=>e=.returned (Pt g (n * 4))/\∃k,w'=w.drewN k:=by
 go_enter func168,ntmps168;go_wp2_with fail;go_quiet (fail);go_wp2;go_ret;exact⟨rfl,_,rfl⟩
theorem aio(init:List Bk)(b:Bk)(x:Int):((init++[b]).flatMap rH).set (init.length * 4+2) (Im x)=(init++[{b with jD:=x}]).flatMap rH:=by
 simp only[gu,c8,dJ,aX];rw[iC _ _ (by rw[He];omega),He,show init.length * 4+2-4 * init.length=2 by omega]
 rfl
theorem jT.ao3(h:jT B w L s l vs (.slice (some (Ad g 0)) n cap) vl){init:List Bk}{b:Bk}(hb:l.jI=init++[b])(hn:n=l.jI.length)(x:Int):
 jT B (w.setCell (Ad g (init.length * 4+2)) (Im x)) L s {l with jI:=init++[{b with jD:=x}]} vs (.slice (some (Ad g 0)) n cap) vl/\
 jV L w vs (.slice (some (Ad g 0)) n cap) vl (w.setCell (Ad g (init.length * 4+2)) (Im x)) vs (.slice (some (Ad g 0)) n cap) vl:=by
 have uQ:¬g=L:=λe=>h.nb (by rw[<-e];rfl);have hc:∀k,(w.setCell (Ad g (init.length * 4+2)) (Im x)).cell? (Ad L k)=w.cell? (Ad L k):=λk=>bG _ _ _ _ (by intro e;cases e;exact uQ rfl);have hrow:=h.jI;subst hn;have hst:=hrow.stored (init.length * 4+2) (Im x);rw[show(l.jI.flatMap rH).set (init.length * 4+2) (Im x)=(init++[{b with jD:=x}]).flatMap rH by rw[hb];exact aio init b x]at hst;have hlen:l.jI.length=(init++[{b with jD:=x}]).length:=by rw[hb];simp
 refine⟨⟨h.bL,by rw[hc];exact h.c0,by rw[hc];exact h.c1,by rw[hc];exact h.c2,by rw[hc];exact h.c3,by rw[hc];exact h.c4,by rw[hc];exact h.c5,by rw[hc];exact h.c6,by rw[hc];exact h.c7,λj=>by rw[dX];exact h.fr j,
  h.jC.kept hst.2 (by rcases h.sb with e|e
                      .exact ji e
                      .exact jh e),?_,h.jY.kept hst.2 ?_,h.ns,h.nb,h.nl,h.sb,h.sl,h.bl⟩,?_⟩
 .have:=hst.1;rw[hlen]at this⊢;exact this
 .rcases h.bl with e|e
  .cases e
  .exact jh (λe'=>e e'.symm)
 .exact⟨rfl,rfl,rfl,by simp,λk _ _ _ h2 _=>bC _ _ _ _ (λe=>h2 (by rw[e];rfl)),λ_ h=>ji h,λ_ h=>ji h,λ_ h=>ji h⟩
theorem OJ(h:jT B w L s l vs vb vl)(hne:l.jI≠[])(hlen:l.jI.length<=1000000)(more:Int):
 Calls prog 172 #[Pt L 0,Im more] w λe w'=>e=.returned (.tuple #[])/\jT B w' L s (l.count more) vs vb vl/\jV L w vs vb vl w' vs vb vl:=by
 obtain⟨g,cap,init,b,rfl,hb,htop,uQ,hBg,hgw,hgs,hgl,b0,b1,b2,b3,hf⟩:=h.inner hne;have hn:l.jI.length=init.length+1:=by rw[hb];simp
 have HI:Hid (Calls prog 168 #[Pt L 0] w λe w'=>e=.returned (Pt g (init.length * 4))/\∃k,w'=w.drewN k):=
  BI L g init.length cap w (by rw[h.c3,hn]) (by omega)
 have HP:Hid (∀k,jT B ((w.drewN k).setCell (Ad g (init.length * 4+2)) (Im (wrap64 (b.jD+more)))) L s {l with jI:=init++[{b with jD:=wrap64 (b.jD+more)}]} vs (.slice (some (Ad g 0)) l.jI.length cap) vl/\
  jV L w vs (.slice (some (Ad g 0)) l.jI.length cap) vl ((w.drewN k).setCell (Ad g (init.length * 4+2)) (Im (wrap64 (b.jD+more)))) vs (.slice (some (Ad g 0)) l.jI.length cap) vl):=λk=>by
  obtain⟨h1,h2⟩:=(h.drewN k).ao3 hb rfl (wrap64 (b.jD+more));exact⟨h1,(jV.grow L w _ _ _ (w':=w.drewN k) ⟨rfl,rfl,rfl,aj _,λ_ _ _=>rfl⟩).trans h2⟩
 have HC:Hid (l.count more={l with jI:=init++[{b with jD:=wrap64 (b.jD+more)}],bad:=l.bad||decide (40000040<wrap64 (b.jD+more))}):=by
  show l.count more=_;simp[Hx.Ls.count,htop,hb]
 have c7:=h.c7;have f7:=h.fr 7;have f2:=hf (init.length * 4+2);have abC:¬L=g:=λe=>uQ e.symm;clear h hne hb htop b0 b1 b3 hf hn hlen;generalize init.length * 4=p at *;by_cases hbad:40000040<wrap64 (b.jD+more)
 .have hd:decide (40000040<wrap64 (b.jD+more))=true:=by simpa using hbad
  have HD:=jB hd;clear hbad;go_enter func172,ntmps172;go_wp2_with fail;refine(HI.out).mono ?_;rintro e w1 ⟨rfl,k,rfl⟩;go_wp2;go_end0;obtain⟨h1,h2⟩:=HP.out k;refine⟨rfl,?_,h2.trans (jV.own _ _ _ _ _ _ _)⟩;rw[HC.out,HD.out];have:=h1.Ir;simpa using this
 .have hd:decide (40000040<wrap64 (b.jD+more))=false:=by simpa using hbad
  have HD:=jB hd;clear hbad;go_enter func172,ntmps172;go_wp2_with fail;refine(HI.out).mono ?_;rintro e w1 ⟨rfl,k,rfl⟩;go_wp2;go_end0;obtain⟨h1,h2⟩:=HP.out k;refine⟨rfl,?_,h2⟩;rw[HC.out,HD.out];simpa using h1
end
end
section
abbrev aY:=@Go.heap_alloc_new
abbrev fM:=@Go.World.news_of_block
end
section
open Go.RowKit
open Hx (Rd Pk Vw St Mc jO)
attribute [local go_sem ↓] Go.wp_at_zero Go.wp_at_succ
section
variable {B C:Nat}{w:jo}{M SB:Nat}{v:Vw}{m:Mc}
theorem ak4:(prog.info? 76).map (λi=>(i.zero,i.size,i.bytes))=some (some (.agg #[Im 0,Im 0]),2,16):=by kernel_rfl
theorem kM.ahk(h:kM B C w M SB v m){va:jr}(hva:w.ownsRow C 76 2 va m.jP.length (oK m.jP)){w1:jo}(hg:w.grownBy w1 va.ownBlock)
 {v':jr}{Oi:List (Int×Int)}(hown:w1.ownsRow C 76 2 v' Oi.length (oK Oi)):
 kM B C (w1.setCell (Ad M 12) v') M SB v {m with jP:=Oi}/\Below B w (w1.setCell (Ad M 12) v')/\
 (∃u,w1.cell? (Ad M 12)=some u)/\w1.frozen? (Ad M 12)=false:=by
 have hs:=h.size;have b1:=h.bM;have b2:=h.bS;have c1:=h.cM;have c2:=h.cS;have hne:=h.ne;have PE:∀k,k<C->some k≠va.ownBlock:=λk hk e=>by
  have:=(hva.lt k e.symm).1;omega
 have hb:=λk (hk:k<C)=>hg.block k (by omega) (PE k hk);have hc1:∀x:Addr,x.block<C->w1.cell? x=w.cell? x:=λx hx=>bQ (hb _ hx);have hf1:∀x:Addr,x.block<C->w1.frozen? x=w.frozen? x:=λx hx=>dZ (hb _ hx);have hc:∀x:Addr,x.block<C->¬x.block=M->(w1.setCell (Ad M 12) v').cell? x=w.cell? x:=λx hx hM=>by
  rw[bG _ _ _ _ (λe=>hM (by rw[<-e]))];exact hc1 x hx
 have hcM:∀k,¬k=12->(w1.setCell (Ad M 12) v').cell? (Ad M k)=w.cell? (Ad M k):=λk hk=>by
  rw[bG _ _ _ _ (by intro e;cases e;exact hk rfl)];exact hc1 _ c1
 obtain⟨va0,akN,_⟩:=h.jP;have h12:w1.cell? (Ad M 12)=some va0:=by rw[hc1 _ c1];exact akN
 have hsz:=hg.size;refine⟨⟨?_,h.bM,h.bS,h.cM,h.cS,h.ne,by simp;omega,?_,?_,?_,?_,?_,h.Qc,?_,?_,h.Df,h.H7,?_,h.one⟩,?_,⟨va0,h12⟩,by rw[hf1 _ c1];exact h.I9⟩
 .exact h.view.keep (λx hx=>hc x (by omega) (by omega)) (λk hk=>hcM k (by omega))
 .rw[hcM 3 (by omega)];exact h.jE
 .intro k hk;rw[hc _ c2 (λe=>hne e.symm)];exact h.slot k hk
 .intro k hk;rw[dX,hf1 _ c2];exact h.BP k hk
 .intro k hk;rw[hcM _ (by omega)];exact h.left k hk
 .intro k hk;rw[dX,hf1 _ c1];exact h.Jw k hk
 .refine⟨v',dB _ _ _ h12,hown.kept (vH w1 (Ad M 12) v') ?_⟩;cases hb:v'.ownBlock with
  |none=>exact ji rfl
  |some g=>
   right;have:=(hown.lt g hb).1;simp;omega
 .rw[dX,hf1 _ c1];exact h.I9
 .intro j hj;have:=h.one;rw[hc _ (by show 1<_;omega) (by show¬1=M;omega)];exact h.J4 j hj
 .exact((dK _ _).grown hg (by omega) (λk hk=>by have:=(hva.lt k hk).1;omega)).setCell (p:=(Ad M 12)) h.bM _
theorem aoR(hm:kM B C w M SB v m)(i j:Int)(r:Rd)(p:Pk)(hj:j<=9223372036854775807)(hr:v.sG i=some r)(hp:v.uH j=some p)(hl:m.jP.length<256):
 Calls prog 54 #[Pt M 0,Im i,Im j] w λe w'=>e=.returned (.bool true)/\kM B C w' M SB v {m with jP:=m.jP++[(r.id,p.seq)]}/\Below B w w':=by
 have HR:Hid (Calls prog 97 #[Pt M 0,Im i] w λe w'=>(∃p,e=.returned p/\Bd w p (some r))/\w'=w):=by
  have:=QM B M i v w hm.view
  rwa [hr]at this
 have HQ:Hid (Calls prog 98 #[Pt M 0,Im j] w λe w'=>(∃q,e=.returned q/\Bc w q (some p))/\w'=w):=by
  have:=QD B M j v w hm.view hj
  rwa [hp]at this
 obtain⟨va,hva,hown⟩:=hm.jP;have hlen:(m.jP.length:Int)<256:=by omega
 have hne:((m.jP.length:Int)==256)=false:=by simp;omega
 have fa:=hm.I9;obtain⟨aa,cap,hval⟩:∃aa cap,va=.slice aa m.jP.length cap:=by
  obtain⟨h1,h2⟩:=hown;rcases h2 with⟨h3,h4⟩|⟨g,cap,cur,h3,h4⟩
  .exact⟨none,0,by rw[h3,h4]⟩
  .exact⟨_,_,h3⟩
 obtain⟨i0,hi0,hz0,hz1,hz2⟩:=info_parts ak4;have HP:Hid (∀(o:Obj)(n:Nat)(w1:jo)(v':jr),((w.alloc o).drewN n).grownBy w1 va.ownBlock->w1.ownsRow C 76 2 v' (m.jP.length+1) (oK m.jP++[Im r.id,Im p.seq])->
  kM B C (w1.setCell (Ad M 12) v') M SB v {m with jP:=m.jP++[(r.id,p.seq)]}/\Below B w (w1.setCell (Ad M 12) v')/\(∃u,w1.cell? (Ad M 12)=some u)/\w1.frozen? (Ad M 12)=false):=by
  intro o n w1 v' hg ho;have hm':=(hm.alloc o).drewN n;have e1:oK (m.jP++[(r.id,p.seq)])=oK m.jP++[Im r.id,Im p.seq]:=by simp[oK]
  have e2:(m.jP++[(r.id,p.seq)]).length=m.jP.length+1:=by simp
  have hown2:w1.ownsRow C 76 2 v' (m.jP++[(r.id,p.seq)]).length (oK (m.jP++[(r.id,p.seq)])):=by rw[e1,e2];exact ho
  obtain⟨h1,h2,h3,h4⟩:=hm'.ahk (va:=va) ((hown.alloc o).kept (w':=(w.alloc o).drewN n) (row:=none) ⟨rfl,rfl,rfl,aj _,λ_ _ _=>rfl⟩ (by cases va.ownBlock<;>simp)) hg hown2;exact⟨h1,(below_drewN ((dK _ _).alloc (by have:=hm.size;have:=hm.cM;have:=hm.bM;omega) o) n).trans h2,h3,h4⟩
 have hO:∀(o:Obj)(n:Nat),((w.alloc o).drewN n).ownsRow C 76 2 va m.jP.length (oK m.jP):=λo n=>
  (hown.alloc o).kept (w':=(w.alloc o).drewN n) (row:=none) ⟨rfl,rfl,rfl,aj _,λ_ _ _=>rfl⟩ (by cases va.ownBlock<;>simp)
 have HO:=jB hO;have hsz:=hm.size;have hMs:M<w.heap.size:=by have:=hm.cM;omega
 have hmx:m.jP.length+1<=maxLen:=by unfold maxLen;omega
 have hby:(m.jP.length+1) * 16<=140737488355328:=by omega
 subst hval;clear hO hown hm hr hp;generalize oK m.jP=cells at *;generalize m.jP++[(r.id,p.seq)]=Oi at *;generalize m.jP.length=len at *;go_enter func54,ntmps54;go_wp2_with fail;refine(HR.out).mono ?_;rintro e w1 ⟨⟨pr,rfl,b1,o1,rfl,r1,r2,r3,r4,r5⟩,rfl⟩;go_wp2_with fail;refine(HQ.out).mono ?_;rintro e w2 ⟨⟨pp,rfl,b2,o2,rfl,q1,q2,q3⟩,rfl⟩;go_wp2_with fail;go_region_law ((refine step_append_lies _ (by rfl) _ _ _ (by rfl) C 76 i0 _ 2 16 Tryz.underlying33 hi0 hz0 hz1 hz2 (by rfl) (by omega) (.slice aa len cap) len cells (by rfl) (HO.out _ 1) (Ad w2.heap.size 0) 1 1 [Im r.id,Im p.seq] (by rfl) (by rfl) (fM (cs:=#[Im r.id,Im p.seq]) (t:=76) (fr:=(0,0)) (aY w2 _)) (by simp[Value.oneCell']) (by omega) hmx hby (by simp;omega) (w2.heap.size+1) (by simp) ?_;intro gg cap1 w3 hown1 hgrow hat hlt;obtain⟨u12,UL⟩:=(HP.out _ 1 _ _ hgrow hown1).2.2.1;have Ux:=(HP.out _ 1 _ _ hgrow hown1).2.2.2));all_goals (go_wp2;go_ret;exact⟨rfl,(HP.out _ 1 _ _ hgrow hown1).1,(HP.out _ 1 _ _ hgrow hown1).2.1⟩)
theorem aev(hm:kM B C w M SB v m)(i j:Int)(hj:j<=9223372036854775807)(hn:v.sG i=none\/v.uH j=none):
 Calls prog 54 #[Pt M 0,Im i,Im j] w λe w'=>e=.returned (.bool true)/\w'=w:=by
 have HR:=jB (QM B M i v w hm.view);have HQ:=jB (QD B M j v w hm.view hj);clear hm;generalize v.sG i=rd at *;generalize v.uH j=pk at *;cases rd with
 |none=>
  go_enter func54,ntmps54;go_wp2_with fail;refine(HR.out).mono ?_;rintro e w1 ⟨⟨pr,rfl,rfl⟩,rfl⟩;go_wp2_with fail;refine(HQ.out).mono ?_;rintro e w2 ⟨⟨pp,rfl,hq⟩,rfl⟩;go_wp2;go_ret;exact⟨rfl,rfl⟩
 |some r=>
  obtain rfl:pk=none:=hn.resolve_left (by simp);go_enter func54,ntmps54;go_wp2_with fail;refine(HR.out).mono ?_;rintro e w1 ⟨⟨pr,rfl,b1,o1,rfl,r1,r2,r3,r4,r5⟩,rfl⟩;go_wp2_with fail;refine(HQ.out).mono ?_;rintro e w2 ⟨⟨pp,rfl,rfl⟩,rfl⟩;go_wp2;go_ret;exact⟨rfl,rfl⟩
theorem aoQ(hm:kM B C w M SB v m)(i j:Int)(r:Rd)(p:Pk)(hj:j<=9223372036854775807)(hr:v.sG i=some r)(hp:v.uH j=some p)(hl:m.jP.length=256):
 Calls prog 54 #[Pt M 0,Im i,Im j] w λe w'=>e=.returned (.bool false)/\w'=w:=by
 have HR:Hid (Calls prog 97 #[Pt M 0,Im i] w λe w'=>(∃p,e=.returned p/\Bd w p (some r))/\w'=w):=by
  have:=QM B M i v w hm.view
  rwa [hr]at this
 have HQ:Hid (Calls prog 98 #[Pt M 0,Im j] w λe w'=>(∃q,e=.returned q/\Bc w q (some p))/\w'=w):=by
  have:=QD B M j v w hm.view hj
  rwa [hp]at this
 obtain⟨va,hva,hown⟩:=hm.jP;obtain⟨aa,cap,hval⟩:∃aa cap,va=.slice aa 256 cap:=by
  obtain⟨h1,h2⟩:=hown;rcases h2 with⟨h3,h4⟩|⟨g,cap,cur,h3,h4⟩
  .omega
  .exact⟨_,_,by rw[h3,hl]⟩
 subst hval;clear hown hm hr hp hl;go_enter func54,ntmps54;go_wp2_with fail;refine(HR.out).mono ?_;rintro e w1 ⟨⟨pr,rfl,b1,o1,rfl,r1,r2,r3,r4,r5⟩,rfl⟩;go_wp2_with fail;refine(HQ.out).mono ?_;rintro e w2 ⟨⟨pp,rfl,b2,o2,rfl,q1,q2,q3⟩,rfl⟩;go_wp2;go_ret;exact⟨rfl,rfl⟩
end
end
section
open Go.RowKit
open Hx (St Bk Ls jO)
attribute [local go_sem ↓] Go.wp_at_zero Go.wp_at_succ
section
variable {B:Nat}{w:jo}{L:Nat}{s:jm}{l:Ls}{vs vb vl:jr}
theorem jT.aqS(h:jT B w L s l vs vb vl){w1:jo}(hg:w.grownBy w1 vs.ownBlock){vs':jr}{steps':List St}(hown:w1.ownsRow B 125 7 vs' steps'.length (steps'.flatMap wK))
 (hat:∀g,vs'.ownBlock=some g->vs.ownBlock=some g\/w.heap.size<=g):
 jT B (w1.setCell (Ad L 2) vs') L s {l with jC:=steps'} vs' vb vl/\jV L w vs vb vl (w1.setCell (Ad L 2) vs') vs' vb vl/\w1.cell? (Ad L 2)=some vs/\w1.frozen? (Ad L 2)=false:=by
 have hL:=h.lt;have hbL:=hg.block L hL (λe=>h.ns e.symm);have hc1:∀j,w1.cell? (Ad L j)=w.cell? (Ad L j):=λj=>bQ hbL;have hf1:∀j,w1.frozen? (Ad L j)=w.frozen? (Ad L j):=λj=>dZ hbL;have hc:∀j,¬j=2->(w1.setCell (Ad L 2) vs').cell? (Ad L j)=w.cell? (Ad L j):=λj hj=>by
  rw[bG _ _ _ _ (by intro e;cases e;exact hj rfl)];exact hc1 j
 have h2:w1.cell? (Ad L 2)=some vs:=by rw[hc1];exact h.c2
 have ns':vs'.ownBlock≠some L:=λe=>by
  rcases hat L e with h1|h1
  .exact h.ns h1
  .omega
 have oV:∀{v:jr},(vs.ownBlock=none\/vs.ownBlock≠v.ownBlock)->(∀g,v.ownBlock=some g->g<w.heap.size)->vs'.ownBlock=none\/vs'.ownBlock≠v.ownBlock:=λ{v} hv hlt=>by
  cases hq:vs'.ownBlock with
  |none=>exact ji rfl
  |some g=>
   refine jh (λe=>?_);have hg':=hlt g e.symm;rcases hat g hq with h1|h1
   .rcases hv with h3|h3
    .rw[h3]at h1;cases h1
    .exact h3 (h1.trans e)
   .omega
 have hbw:=h.jI;have H6:=h.jY;have hg2:=vH w1 (Ad L 2) vs';refine⟨⟨h.bL,by rw[hc 0 (by omega)];exact h.c0,by rw[hc 1 (by omega)];exact h.c1,dB _ _ _ h2,by rw[hc 3 (by omega)];exact h.c3,by rw[hc 4 (by omega)];exact h.c4,by rw[hc 5 (by omega)];exact h.c5,by rw[hc 6 (by omega)];exact h.c6,by rw[hc 7 (by omega)];exact h.c7,
  λj=>by rw[dX,hf1];exact h.fr j,hown.kept hg2 (jh ns'),(hbw.kept hg ?_).kept hg2 (jh h.nb),(H6.kept hg ?_).kept hg2 (jh h.nl),ns',h.nb,h.nl,oV h.sb (λg e=>(hbw.lt g e).2),oV h.sl (λg e=>(H6.lt g e).2),h.bl⟩,?_,h2,by rw[hf1];exact h.fr 2⟩
 .cases hq:vb.ownBlock with
  |none=>exact ji rfl
  |some g=>
   refine jh (λe=>?_);rcases h.sb with h3|h3
   .rw[h3]at e;cases e
   .exact h3 (by rw[hq];exact e.symm)
 .cases hq:vl.ownBlock with
  |none=>exact ji rfl
  |some g=>
   refine jh (λe=>?_);rcases h.sl with h3|h3
   .rw[h3]at e;cases e
   .exact h3 (by rw[hq];exact e.symm)
 .refine⟨hg.os,hg.tape,hg.output,by simpa using hg.size,λk hk L8 h1 _ _=>?_,hat,λ_ h=>ji h,λ_ h=>ji h⟩;rw[bC _ _ _ _ L8];exact hg.block k hk h1
theorem aj1(w:jo)(o1 o2:Obj):((w.alloc o1).alloc o2).drew.heap[w.heap.size+1]? =some o2:=by
 have:=aY (w.alloc o1) o2
 rwa [World.size_alloc]at this
theorem ak9:(prog.info? 125).map (λi=>(i.zero,i.size,i.bytes))=some (some (.agg #[.int .u8 0,Im 0,Im 0,Im 0,Im 0,Im 0,Im 0]),7,56):=by kernel_rfl
theorem AB{base:Nat}{e:jv}{size n:Nat}{v:jr}{xs:List jr}(h:w.ownsRow base e size v n xs):∃a c,v=.slice a n c:=by
 rcases h.2 with⟨h1,h2⟩|⟨g,cap,cur,h1,h2⟩
 .exact⟨none,0,by rw[h1,h2]⟩
 .exact⟨_,_,h1⟩
theorem Ja(h:jT B w L s l vs vb vl)(hne:l.jI≠[])(hlb:l.jI.length<=1000000)(hls:l.jC.length<=1000000)(q a b c d dp t:Int):
 Calls prog 118 #[Pt L 0,.agg #[.int .u8 q,Im a,Im b,Im c,Im d,Im dp,Im t]] w λe w'=>e=.returned (.tuple #[])/\
  ∃vs',jT B w' L s (Hx.Ls.count {l with jC:=l.jC++[⟨q,a,b,c,d,dp,t⟩]} 1) vs' vb vl/\jV L w vs vb vl w' vs' vb vl:=by
 obtain⟨aS,cS,rfl⟩:=AB h.jC;obtain⟨i0,hi0,hz0,hz1,hz2⟩:=info_parts ak9;have HP:Hid (∀(o1 o2:Obj)(k:Nat)(w1:jo)(g cap:Nat),(((w.alloc o1).alloc o2).drewN k).grownBy w1 (Value.slice aS l.jC.length cS).ownBlock->
  w1.ownsRow B 125 7 (.slice (some (Ad g 0)) (l.jC.length+1) cap) (l.jC.length+1) (l.jC.flatMap wK++[.int .u8 q,Im a,Im b,Im c,Im d,Im dp,Im t])->
  ((Value.slice aS l.jC.length cS).ownBlock=some g\/g=w.heap.size+1+1)->
  jT B (w1.setCell (Ad L 2) (.slice (some (Ad g 0)) (l.jC.length+1) cap)) L s {l with jC:=l.jC++[⟨q,a,b,c,d,dp,t⟩]} (.slice (some (Ad g 0)) (l.jC.length+1) cap) vb vl/\
  jV L w (.slice aS l.jC.length cS) vb vl (w1.setCell (Ad L 2) (.slice (some (Ad g 0)) (l.jC.length+1) cap)) (.slice (some (Ad g 0)) (l.jC.length+1) cap) vb vl/\
  w1.cell? (Ad L 2)=some (.slice aS l.jC.length cS)/\w1.frozen? (Ad L 2)=false):=by
  intro o1 o2 k w1 g cap hg ho hat;have hW:=((h.alloc o1).alloc o2).drewN k;have e1:(l.jC++[(⟨q,a,b,c,d,dp,t⟩:St)]).length=l.jC.length+1:=by simp
  have e2:(l.jC++[(⟨q,a,b,c,d,dp,t⟩:St)]).flatMap wK=l.jC.flatMap wK++[.int .u8 q,Im a,Im b,Im c,Im d,Im dp,Im t]:=by simp[wK]
  have hsz:(((w.alloc o1).alloc o2).drewN k).heap.size=w.heap.size+1+1:=by simp
  obtain⟨h1,h2,h3,h4⟩:=hW.aqS hg (vs':=.slice (some (Ad g 0)) (l.jC.length+1) cap) (steps':=l.jC++[⟨q,a,b,c,d,dp,t⟩]) (by rw[e1,e2];exact ho) (λg' hg'=>by
   have:g=g':=by simpa [Value.ownBlock]using hg'
   subst this;rcases hat with h5|h5
   .exact ji h5
   .exact jh (by rw[hsz];omega))
  exact⟨h1,(jV.grow L w _ _ _ (w':=((w.alloc o1).alloc o2).drewN k) ((ah w o1 none).trans ((ah _ o2 none).trans ⟨rfl,rfl,rfl,aj _,λ_ _ _=>rfl⟩))).trans h2,h3,h4⟩
 have HO:=jB (λ(o1:Obj)(o2:Obj)(k:Nat)=>(((h.alloc o1).alloc o2).drewN k).jC);have HC:Hid (∀(w2:jo)(vs2:jr),jT B w2 L s {l with jC:=l.jC++[⟨q,a,b,c,d,dp,t⟩]} vs2 vb vl->
  Calls prog 172 #[Pt L 0,Im 1] w2 λe w'=>e=.returned (.tuple #[])/\jT B w' L s (Hx.Ls.count {l with jC:=l.jC++[⟨q,a,b,c,d,dp,t⟩]} 1) vs2 vb vl/\jV L w2 vs2 vb vl w' vs2 vb vl):=λw2 vs2 h2=>
  OJ h2 hne hlb 1
 have c2:=h.c2;have hL:=h.lt;have hBw:B<=w.heap.size:=by have:=h.bL;omega
 have n1:¬L=w.heap.size:=by omega
 have n2:¬L=w.heap.size+1:=by omega
 have hmx:l.jC.length+1<=maxLen:=by unfold maxLen;omega
 have hby:(l.jC.length+1) * 56<=140737488355328:=by omega
 clear h hne hlb hls;generalize Hx.Ls.count {l with jC:=l.jC++[⟨q,a,b,c,d,dp,t⟩]} 1=l2 at *;generalize ({l with jC:=l.jC++[⟨q,a,b,c,d,dp,t⟩]}:Ls)=l1 at *;generalize l.jC.flatMap wK=cells at *;generalize l.jC.length=len at *;go_enter func118,ntmps118;go_wp2_with fail;go_region_law ((refine step_append_lies _ (by rfl) _ _ _ (by rfl) B 125 i0 _ 7 56 Tryz.underlying118 hi0 hz0 hz1 hz2 (by rfl) (by omega) (.slice aS len cS) len cells (by rfl) (HO.out _ _ 1) (Ad (w.heap.size+1) 0) 1 1 [.int .u8 q,Im a,Im b,Im c,Im d,Im dp,Im t] (by rfl) (by rfl) (fM (cs:=#[.int .u8 q,Im a,Im b,Im c,Im d,Im dp,Im t]) (t:=125) (fr:=(0,0)) (aj1 w _ _)) (by simp[Value.oneCell']) (by omega) hmx hby (by simp;omega) (w.heap.size+1+1) (by simp) ?_;intro gg cap1 w3 hown1 hgrow hat hlt;have hu2:=(HP.out _ _ 1 _ _ _ hgrow hown1 hat).2.2.1;have hf2:=(HP.out _ _ 1 _ _ _ hgrow hown1 hat).2.2.2));all_goals
  have hm:=(HP.out _ _ 1 _ _ _ hgrow hown1 hat).1;have hv:=(HP.out _ _ 1 _ _ _ hgrow hown1 hat).2.1;have HM:=jB (jg hm hv);clear hm hv hu2 hf2 hown1 hgrow hat hlt;go_wp2_with fail;refine(HC.out _ _ HM.out.1).mono ?_;rintro e w4 ⟨rfl,h5,h6⟩;go_wp2;go_end0;exact⟨rfl,_,h5,HM.out.2.trans h6⟩
theorem D7{u v:jr}(h:u.ownBlock=none\/u.ownBlock≠v.ownBlock):v.ownBlock=none\/v.ownBlock≠u.ownBlock:=by
 cases hv:v.ownBlock with
 |none=>exact ji rfl
 |some g=>
  refine jh (λe=>?_);rcases h with h|h
  .rw[h]at e;cases e
  .exact h (by rw[hv];exact e.symm)
theorem Ol{w:jo}{v v' u:jr}(hv:v.ownBlock=none\/v.ownBlock≠u.ownBlock)(hat:∀g,v'.ownBlock=some g->v.ownBlock=some g\/w.heap.size<=g)(hlt:∀g,u.ownBlock=some g->g<w.heap.size):v'.ownBlock=none\/v'.ownBlock≠u.ownBlock:=by
 cases hq:v'.ownBlock with
 |none=>exact ji rfl
 |some g=>
  refine jh (λe=>?_);have hg':=hlt g e.symm;rcases hat g hq with h1|h1
  .rcases hv with h3|h3
   .rw[h3]at h1;cases h1
   .exact h3 (h1.trans e)
  .omega
theorem jT.TA(h:jT B w L s l vs vb vl){w1:jo}(hg:w.grownBy w1 vb.ownBlock){kJ:jr}{blocks':List Bk}(hown:w1.ownsRow B 226 4 kJ blocks'.length (blocks'.flatMap rH))
 (hat:∀g,kJ.ownBlock=some g->vb.ownBlock=some g\/w.heap.size<=g):
 jT B (w1.setCell (Ad L 3) kJ) L s {l with jI:=blocks'} vs kJ vl/\jV L w vs vb vl (w1.setCell (Ad L 3) kJ) vs kJ vl/\w1.cell? (Ad L 3)=some vb/\w1.frozen? (Ad L 3)=false:=by
 have hL:=h.lt;have hbL:=hg.block L hL (λe=>h.nb e.symm);have hc1:∀j,w1.cell? (Ad L j)=w.cell? (Ad L j):=λj=>bQ hbL;have hf1:∀j,w1.frozen? (Ad L j)=w.frozen? (Ad L j):=λj=>dZ hbL;have hc:∀j,¬j=3->(w1.setCell (Ad L 3) kJ).cell? (Ad L j)=w.cell? (Ad L j):=λj hj=>by
  rw[bG _ _ _ _ (by intro e;cases e;exact hj rfl)];exact hc1 j
 have h3:w1.cell? (Ad L 3)=some vb:=by rw[hc1];exact h.c3
 have nb':kJ.ownBlock≠some L:=λe=>by
  rcases hat L e with h1|h1
  .exact h.nb h1
  .omega
 have hsw:=h.jC;have H6:=h.jY;have hg2:=vH w1 (Ad L 3) kJ;exact⟨⟨h.bL,by rw[hc 0 (by omega)];exact h.c0,by rw[hc 1 (by omega)];exact h.c1,by rw[hc 2 (by omega)];exact h.c2,dB _ _ _ h3,by rw[hc 4 (by omega)];exact h.c4,by rw[hc 5 (by omega)];exact h.c5,by rw[hc 6 (by omega)];exact h.c6,by rw[hc 7 (by omega)];exact h.c7,
  λj=>by rw[dX,hf1];exact h.fr j,(hsw.kept hg h.sb).kept hg2 (jh h.ns),hown.kept hg2 (jh nb'),(H6.kept hg (D7 h.bl)).kept hg2 (jh h.nl),h.ns,nb',h.nl,
  D7 (Ol (D7 h.sb) hat (λg e=>(hsw.lt g e).2)),h.sl,Ol h.bl hat (λg e=>(H6.lt g e).2)⟩,
  ⟨hg.os,hg.tape,hg.output,by simpa using hg.size,λk hk L8 _ h2 _=>by rw[bC _ _ _ _ L8];exact hg.block k hk h2,λ_ h=>ji h,hat,λ_ h=>ji h⟩,h3,by rw[hf1];exact h.fr 3⟩
theorem jT.acZ(h:jT B w L s l vs vb vl){w1:jo}(hg:w.grownBy w1 vl.ownBlock){lq:jr}{loops':List Int}(hown:w1.ownsRow B 3 1 lq loops'.length (loops'.map (Value.int .i64)))
 (hat:∀g,lq.ownBlock=some g->vl.ownBlock=some g\/w.heap.size<=g):
 jT B (w1.setCell (Ad L 4) lq) L s {l with jY:=loops'} vs vb lq/\jV L w vs vb vl (w1.setCell (Ad L 4) lq) vs vb lq/\w1.cell? (Ad L 4)=some vl/\w1.frozen? (Ad L 4)=false:=by
 have hL:=h.lt;have hbL:=hg.block L hL (λe=>h.nl e.symm);have hc1:∀j,w1.cell? (Ad L j)=w.cell? (Ad L j):=λj=>bQ hbL;have hf1:∀j,w1.frozen? (Ad L j)=w.frozen? (Ad L j):=λj=>dZ hbL;have hc:∀j,¬j=4->(w1.setCell (Ad L 4) lq).cell? (Ad L j)=w.cell? (Ad L j):=λj hj=>by
  rw[bG _ _ _ _ (by intro e;cases e;exact hj rfl)];exact hc1 j
 have h4:w1.cell? (Ad L 4)=some vl:=by rw[hc1];exact h.c4
 have nl':lq.ownBlock≠some L:=λe=>by
  rcases hat L e with h1|h1
  .exact h.nl h1
  .omega
 have hsw:=h.jC;have hbw:=h.jI;have hg2:=vH w1 (Ad L 4) lq;exact⟨⟨h.bL,by rw[hc 0 (by omega)];exact h.c0,by rw[hc 1 (by omega)];exact h.c1,by rw[hc 2 (by omega)];exact h.c2,by rw[hc 3 (by omega)];exact h.c3,dB _ _ _ h4,by rw[hc 5 (by omega)];exact h.c5,by rw[hc 6 (by omega)];exact h.c6,by rw[hc 7 (by omega)];exact h.c7,
  λj=>by rw[dX,hf1];exact h.fr j,(hsw.kept hg h.sl).kept hg2 (jh h.ns),(hbw.kept hg h.bl).kept hg2 (jh h.nb),hown.kept hg2 (jh nl'),h.ns,h.nb,nl',
  h.sb,D7 (Ol (D7 h.sl) hat (λg e=>(hsw.lt g e).2)),D7 (Ol (D7 h.bl) hat (λg e=>(hbw.lt g e).2))⟩,
  ⟨hg.os,hg.tape,hg.output,by simpa using hg.size,λk hk L8 _ _ h3=>by rw[bC _ _ _ _ L8];exact hg.block k hk h3,λ_ h=>ji h,λ_ h=>ji h,hat⟩,h4,by rw[hf1];exact h.fr 4⟩
theorem ak5:(prog.info? 226).map (λi=>(i.zero,i.size,i.bytes))=some (some (.agg #[Im 0,Im 0,Im 0,Im 0]),4,32):=by kernel_rfl
theorem adY(h:jT B w L s l vs vb vl)(hne:l.jI≠[])(hlb:l.jI.length<=900000)(hls:l.jC.length<=900000)(q a b c d dp t:Int):
 Calls prog 113 #[Pt L 0,.agg #[.int .u8 q,Im a,Im b,Im c,Im d,Im dp,Im t]] w λe w'=>e=.returned (.tuple #[])/\
  ∃vs' kJ,jT B w' L s (wZ l ⟨q,a,b,c,d,dp,t⟩) vs' kJ vl/\jV L w vs vb vl w' vs' kJ vl:=by
 obtain⟨i0,hi0,hz0,hz1,hz2⟩:=info_parts ak5;have HA:Hid (∀o,Calls prog 118 #[Pt L 0,.agg #[.int .u8 q,Im a,Im b,Im c,Im d,Im dp,Im t]] (w.alloc o) λe w'=>e=.returned (.tuple #[])/\
  ∃vs',jT B w' L s (mF l ⟨q,a,b,c,d,dp,t⟩) vs' vb vl/\jV L w vs vb vl w' vs' vb vl):=λo=>by
  refine(Ja (h.alloc o) hne (by omega) (by omega) q a b c d dp t).mono ?_;rintro e w' ⟨h1,vs',h2,h3⟩;exact⟨h1,vs',h2,(jV.grow L w _ _ _ (ah w o none)).trans h3⟩
 have hl1:(mF l ⟨q,a,b,c,d,dp,t⟩).jI.length=l.jI.length:=Oj l _ hne;have hl2:(mF l ⟨q,a,b,c,d,dp,t⟩).jC.length=l.jC.length+1:=by rw[KZ];simp
 have HO:Hid (wZ l ⟨q,a,b,c,d,dp,t⟩={mF l ⟨q,a,b,c,d,dp,t⟩with jI:=(mF l ⟨q,a,b,c,d,dp,t⟩).jI++[⟨l.jC.length,0,0,0⟩]}):=rfl;have hL:=h.lt;have hBL:=h.bL;clear h hne;generalize wZ l ⟨q,a,b,c,d,dp,t⟩=l2 at *;generalize mF l ⟨q,a,b,c,d,dp,t⟩=l1 at *;generalize l.jC.length=len at *;have sH:=jB hl1;have HL2:=jB hl2;clear hl1 hl2;have n1:¬L=w.heap.size:=by omega
 go_enter func113,ntmps113;go_wp2_with fail;refine(HA.out _).mono ?_;rintro e w1 ⟨rfl,vs1,h1,m1⟩;obtain⟨aS,cS,hvs⟩:=AB h1.jC;obtain⟨aB,cB,hvb⟩:=AB h1.jI;rw[HL2.out]at hvs;subst hvs;subst hvb;have HP:Hid (∀(o:Obj)(k:Nat)(w2:jo)(g cap:Nat),((w1.alloc o).drewN k).grownBy w2 (Value.slice aB l1.jI.length cB).ownBlock->
  w2.ownsRow B 226 4 (.slice (some (Ad g 0)) (l1.jI.length+1) cap) (l1.jI.length+1) (l1.jI.flatMap rH++[Im len,Im 0,Im 0,Im 0])->
  ((Value.slice aB l1.jI.length cB).ownBlock=some g\/g=w1.heap.size+1)->
  jT B (w2.setCell (Ad L 3) (.slice (some (Ad g 0)) (l1.jI.length+1) cap)) L s l2 (.slice aS (len+1) cS) (.slice (some (Ad g 0)) (l1.jI.length+1) cap) vl/\
  jV L w vs (.slice aB l1.jI.length cB) vl (w2.setCell (Ad L 3) (.slice (some (Ad g 0)) (l1.jI.length+1) cap)) (.slice aS (len+1) cS) (.slice (some (Ad g 0)) (l1.jI.length+1) cap) vl/\
  w2.cell? (Ad L 3)=some (.slice aB l1.jI.length cB)/\w2.frozen? (Ad L 3)=false):=by
  intro o k w2 g cap hg ho hat;have hW:=(h1.alloc o).drewN k;have hsz:((w1.alloc o).drewN k).heap.size=w1.heap.size+1:=by simp
  obtain⟨g1,g2,g3,g4⟩:=hW.TA hg (kJ:=.slice (some (Ad g 0)) (l1.jI.length+1) cap) (blocks':=l1.jI++[⟨len,0,0,0⟩]) (by
   have e1:(l1.jI++[(⟨len,0,0,0⟩:Bk)]).length=l1.jI.length+1:=by simp
   have e2:(l1.jI++[(⟨len,0,0,0⟩:Bk)]).flatMap rH=l1.jI.flatMap rH++[Im len,Im 0,Im 0,Im 0]:=by simp[rH]
   rw[e1,e2];exact ho) (λg' hg'=>by
   have:g=g':=by simpa [Value.ownBlock]using hg'
   subst this;rcases hat with h5|h5
   .exact ji h5
   .exact jh (by rw[hsz];omega))
  rw[HO.out];exact⟨g1,m1.trans ((jV.grow L w1 _ _ _ (w':=(w1.alloc o).drewN k) ((ah w1 o none).trans ⟨rfl,rfl,rfl,aj _,λ_ _ _=>rfl⟩)).trans g2),g3,g4⟩
 have HW:=jB (λ(o:Obj)(k:Nat)=>((h1.alloc o).drewN k).jI);have c2:=h1.c2;have c3:=h1.c3;have hL1:=h1.lt;have hmx:l1.jI.length+1<=maxLen:=by have:=sH.out;unfold maxLen;omega
 have hby:(l1.jI.length+1) * 32<=140737488355328:=by have:=sH.out;omega
 have n2:¬L=w1.heap.size:=by omega
 have hBw:B<=w1.heap.size:=by omega
 clear h1 m1 HA;generalize l1.jI.flatMap rH=cells at *;have hwr:IntKind.i64.wrap (len:Int)=(len:Int):=by rw[IntKind.wrap_i64];omega
 go_wp2_with fail;go_region_law ((refine step_append_lies _ (by rfl) _ _ _ (by rfl) B 226 i0 _ 4 32 Tryz.underlying149 hi0 hz0 hz1 hz2 (by rfl) (by omega) (.slice aB l1.jI.length cB) l1.jI.length cells (by rfl) (HW.out _ 1) (Ad w1.heap.size 0) 1 1 [Im len,Im 0,Im 0,Im 0] (by rfl) (by rfl) (fM (cs:=#[Im len,Im 0,Im 0,Im 0]) (t:=226) (fr:=(0,0)) (aY w1 _)) (by simp[Value.oneCell']) (by omega) hmx hby (by simp;omega) (w1.heap.size+1) (by simp) ?_;intro gg cap1 w3 hown1 hgrow hat hlt;have hu3:=(HP.out _ 1 _ _ _ hgrow hown1 hat).2.2.1;have hf3:=(HP.out _ 1 _ _ _ hgrow hown1 hat).2.2.2));all_goals
  have hm:=(HP.out _ 1 _ _ _ hgrow hown1 hat).1;have hv:=(HP.out _ 1 _ _ _ hgrow hown1 hat).2.1;clear hown1 hgrow hat hlt;go_wp2;go_end0;exact⟨rfl,_,_,hm,hv⟩
end
end
section
abbrev cu:=@Go.bodyPost_ret
end
section
open Go.RowKit
open Hx (St Bk Ls jO)
attribute [local go_sem ↓] Go.wp_at_zero Go.wp_at_succ
section
variable {B:Nat}{w:jo}{L:Nat}{s:jm}{l:Ls}{vs vb vl:jr}
theorem kL(w:jo)(n:Nat)(x:Addr)(u:jr):(w.drewN n).setCell x u=(w.setCell x u).drewN n:=rfl
attribute [local go_sem] kL
theorem jT.acC(h:jT B w L s l vs vb vl){init:List Int}{x:Int}(hx:l.jY=init++[x]):
 ∃g cap,vl=.slice (some (Ad g 0)) (init.length+1) cap/\g<w.heap.size/\w.cell? (Ad g init.length)=some (Im x):=by
 have hrow:=h.jY;have hlen:l.jY.length=init.length+1:=by rw[hx];simp
 rcases hrow.2 with⟨h1,h2⟩|⟨g,cap,cur,h1,h2,h3⟩
 .omega
 .refine⟨g,cap,by rw[h1,hlen],(hrow.lt g (by rw[h1];rfl)).2,?_⟩;rw[h1]at hrow;rw[hrow.cellAt _ (by omega),hx];simp
theorem aqD(h:jT B w L s l vs vb vl)(hl:l.jY=[])(q a b c d dp t:Int):
 Calls prog 117 #[Pt L 0,.agg #[.int .u8 q,Im a,Im b,Im c,Im d,Im dp,Im t]] w λe w'=>e=.returned (.tuple #[])/\
  jT B w' L s {l with bad:=true} vs vb vl/\jV L w vs vb vl w' vs vb vl:=by
 have HP:Hid (∀o,jT B ((w.setCell (Ad L 7) (.bool true)).alloc o) L s {l with bad:=true} vs vb vl/\jV L w vs vb vl ((w.setCell (Ad L 7) (.bool true)).alloc o) vs vb vl):=λo=>
  ⟨h.Ir.alloc o,(jV.own L w vs vb vl 7 (.bool true)).trans (jV.grow L _ vs vb vl (ah _ o none))⟩
 obtain⟨a0,c0,rfl⟩:=AB h.jY;have c4:=h.c4;have c7:=h.c7;have f7:=h.fr 7;have hL:=h.lt;have n1:¬L=w.heap.size:=by omega
 have hlen:l.jY.length=0:=by rw[hl];rfl
 clear h hl;generalize l.jY.length=n at *;subst hlen;go_enter func117,ntmps117;go_wp2;exact cu (v:=.tuple #[]) (by simp[results,Tryz.results117,go_sem]) rfl ⟨rfl,HP.out _⟩
theorem aqF(h:jT B w L s l vs vb vl)(hne:l.jI≠[])(hlb:l.jI.length<=900000)(hls:l.jC.length<=900000)(hll:l.jY.length<=900000)(init:List Int)(x:Int)(hx:l.jY=init++[x])(q a b c d dp t:Int):
 Calls prog 117 #[Pt L 0,.agg #[.int .u8 q,Im a,Im b,Im c,Im d,Im dp,Im t]] w λe w'=>e=.returned (.tuple #[])/\
  ∃vs',jT B w' L s (mF l ⟨q,a,b,c,d,dp,x⟩) vs' vb vl/\jV L w vs vb vl w' vs' vb vl:=by
 obtain⟨g,cap,rfl,hg,cg⟩:=h.acC hx;have hlen:l.jY.length=init.length+1:=by rw[hx];simp
 have HA:Hid (∀o k,Calls prog 118 #[Pt L 0,.agg #[.int .u8 q,Im a,Im b,Im c,Im d,Im dp,Im x]] ((w.alloc o).drewN k) λe w'=>e=.returned (.tuple #[])/\
  ∃vs',jT B w' L s (mF l ⟨q,a,b,c,d,dp,x⟩) vs' vb (.slice (some (Ad g 0)) (init.length+1) cap)/\jV L w vs vb (.slice (some (Ad g 0)) (init.length+1) cap) w' vs' vb (.slice (some (Ad g 0)) (init.length+1) cap)):=λo k=>by
  refine(Ja ((h.alloc o).drewN k) hne (by omega) (by omega) q a b c d dp x).mono ?_;rintro e w' ⟨h1,vs',h2,h3⟩;exact⟨h1,vs',h2,(jV.grow L w _ _ _ (w':=(w.alloc o).drewN k) ((ah w o none).trans ⟨rfl,rfl,rfl,aj _,λ_ _ _=>rfl⟩)).trans h3⟩
 have c4:=h.c4;have hL:=h.lt;have n1:¬L=w.heap.size:=by omega
 have n2:¬g=w.heap.size:=by omega
 have hi:init.length<=900000:=by omega
 clear h hx hlen hne;generalize init.length=n at *;have hne0:(((n:Int)+1)==0)=false:=by simp;omega
 have i1:(0:Int)<=(n:Int):=by omega
 go_enter func117,ntmps117;go_wp2_with fail;refine nJ 13 (by kernel_rfl) (by kernel_rfl) ?_;simp only[aC,aO,aG,aQ];repeat (go_big_quiet_step (fail))
 refine bF ?_;intro _ hw';obtain⟨k3,hw''⟩:=hw';subst hw'';go_wp2_with fail;refine(HA.out _ k3).mono ?_;rintro e w1 ⟨rfl,vs',h1,h2⟩;go_wp2;go_end0;exact⟨rfl,vs',h1,h2⟩
end
section
variable {B:Nat}{w:jo}{L:Nat}{s:jm}{l:Ls}{vs vb vl:jr}
theorem an9(h:jT B w L s l vs vb vl)(hl:l.jY.length=8)(q a b c d dp t:Int):
 Calls prog 114 #[Pt L 0,.agg #[.int .u8 q,Im a,Im b,Im c,Im d,Im dp,Im t]] w λe w'=>e=.returned (.tuple #[])/\
  jT B w' L s {l with bad:=true} vs vb vl/\jV L w vs vb vl w' vs vb vl:=by
 have HP:Hid (∀o,jT B ((w.setCell (Ad L 7) (.bool true)).alloc o) L s {l with bad:=true} vs vb vl/\jV L w vs vb vl ((w.setCell (Ad L 7) (.bool true)).alloc o) vs vb vl):=λo=>
  ⟨h.Ir.alloc o,(jV.own L w vs vb vl 7 (.bool true)).trans (jV.grow L _ vs vb vl (ah _ o none))⟩
 obtain⟨a0,c0,rfl⟩:=AB h.jY;have c4:=h.c4;have c7:=h.c7;have f7:=h.fr 7;have hL:=h.lt;have n1:¬L=w.heap.size:=by omega
 clear h;generalize l.jY.length=n at *;subst hl;go_enter func114,ntmps114;go_wp2;exact cu (v:=.tuple #[]) (by simp[results,Tryz.results114,go_sem]) rfl ⟨rfl,HP.out _⟩
theorem aoa(h:jT B w L s l vs vb vl)(hne:l.jI≠[])(hlb:l.jI.length<=900000)(hls:l.jC.length<=900000)(hll:l.jY.length<8)(q a b c d dp t:Int):
 Calls prog 114 #[Pt L 0,.agg #[.int .u8 q,Im a,Im b,Im c,Im d,Im dp,Im t]] w λe w'=>e=.returned (.tuple #[])/\
  ∃vs' kJ lq,jT B w' L s (Ic l ⟨q,a,b,c,d,dp,t⟩) vs' kJ lq/\jV L w vs vb vl w' vs' kJ lq:=by
 obtain⟨i0,hi0,hz0,hz1,hz2⟩:=info_parts ab5;obtain⟨aL,cL,rfl⟩:=AB h.jY;have HA:Hid (∀o,Calls prog 113 #[Pt L 0,.agg #[.int .u8 q,Im a,Im b,Im c,Im d,Im l.jY.length,Im t]] (w.alloc o) λe w'=>e=.returned (.tuple #[])/\
  ∃vs' kJ,jT B w' L s (wZ l ⟨q,a,b,c,d,l.jY.length,t⟩) vs' kJ (.slice aL l.jY.length cL)/\jV L w vs vb (.slice aL l.jY.length cL) w' vs' kJ (.slice aL l.jY.length cL)):=λo=>by
  refine(adY (h.alloc o) hne hlb hls q a b c d l.jY.length t).mono ?_;rintro e w' ⟨h1,vs',kJ,h2,h3⟩;exact⟨h1,vs',kJ,h2,(jV.grow L w _ _ _ (ah w o none)).trans h3⟩
 have hl2:(wZ l ⟨q,a,b,c,d,l.jY.length,t⟩).jC.length=l.jC.length+1:=by
  show(l.jC++[_]).length=_;simp
 have hl3:(wZ l ⟨q,a,b,c,d,l.jY.length,t⟩).jY=l.jY:=rfl;have HO:Hid (Ic l ⟨q,a,b,c,d,dp,t⟩={wZ l ⟨q,a,b,c,d,l.jY.length,t⟩with jY:=l.jY++[(l.jC.length:Int)]}):=rfl;have c4:=h.c4;have hL:=h.lt;have hBL:=h.bL;clear h hne hlb;generalize Ic l ⟨q,a,b,c,d,dp,t⟩=l2 at *;generalize wZ l ⟨q,a,b,c,d,l.jY.length,t⟩=l1 at *;have HL2:=jB hl2;have wL:=jB hl3;clear hl2 hl3;have n1:¬L=w.heap.size:=by omega
 have h8:((l.jY.length:Int)==8)=false:=by simp;omega
 go_enter func114,ntmps114;go_wp2_with fail;refine(HA.out _).mono ?_;rintro e w1 ⟨rfl,vs1,vb1,h1,m1⟩;obtain⟨aS,cS,hvs⟩:=AB h1.jC;rw[HL2.out]at hvs;subst hvs;have HP:Hid (∀(o:Obj)(k:Nat)(w2:jo)(g cap:Nat),((w1.alloc o).drewN k).grownBy w2 (Value.slice aL l.jY.length cL).ownBlock->
  w2.ownsRow B 3 1 (.slice (some (Ad g 0)) (l.jY.length+1) cap) (l.jY.length+1) (l.jY.map (Value.int .i64)++[Im l.jC.length])->
  ((Value.slice aL l.jY.length cL).ownBlock=some g\/g=w1.heap.size+1)->
  jT B (w2.setCell (Ad L 4) (.slice (some (Ad g 0)) (l.jY.length+1) cap)) L s l2 (.slice aS (l.jC.length+1) cS) vb1 (.slice (some (Ad g 0)) (l.jY.length+1) cap)/\
  jV L w vs vb (.slice aL l.jY.length cL) (w2.setCell (Ad L 4) (.slice (some (Ad g 0)) (l.jY.length+1) cap)) (.slice aS (l.jC.length+1) cS) vb1 (.slice (some (Ad g 0)) (l.jY.length+1) cap)/\
  w2.cell? (Ad L 4)=some (.slice aL l.jY.length cL)/\w2.frozen? (Ad L 4)=false):=by
  intro o k w2 g cap hg ho hat;have hW:=(h1.alloc o).drewN k;have hsz:((w1.alloc o).drewN k).heap.size=w1.heap.size+1:=by simp
  obtain⟨g1,g2,g3,g4⟩:=hW.acZ hg (lq:=.slice (some (Ad g 0)) (l.jY.length+1) cap) (loops':=l.jY++[(l.jC.length:Int)]) (by
   have e1:(l.jY++[(l.jC.length:Int)]).length=l.jY.length+1:=by simp
   have e2:(l.jY++[(l.jC.length:Int)]).map (Value.int .i64)=l.jY.map (Value.int .i64)++[Im l.jC.length]:=by simp
   rw[e1,e2];exact ho) (λg' hg'=>by
   have:g=g':=by simpa [Value.ownBlock]using hg'
   subst this;rcases hat with h5|h5
   .exact ji h5
   .exact jh (by rw[hsz];omega))
  rw[HO.out];exact⟨g1,m1.trans ((jV.grow L w1 _ _ _ (w':=(w1.alloc o).drewN k) ((ah w1 o none).trans ⟨rfl,rfl,rfl,aj _,λ_ _ _=>rfl⟩)).trans g2),g3,g4⟩
 have HW:Hid (∀(o:Obj)(k:Nat),((w1.alloc o).drewN k).ownsRow B 3 1 (.slice aL l.jY.length cL) l.jY.length (l.jY.map (Value.int .i64))):=λo k=>by
  have:=((h1.alloc o).drewN k).jY;rw[wL.out]at this;exact this
 have d2:=h1.c2;have d4:=h1.c4;have hL1:=h1.lt;have hmx:l.jY.length+1<=maxLen:=by unfold maxLen;omega
 have hby:(l.jY.length+1) * 8<=140737488355328:=by omega
 have n2:¬L=w1.heap.size:=by omega
 have hBw:B<=w1.heap.size:=by omega
 have hwr:IntKind.i64.wrap (l.jC.length:Int)=(l.jC.length:Int):=by rw[IntKind.wrap_i64];omega
 clear h1 m1 HA c4;generalize l.jY.map (Value.int .i64)=cells at *;go_wp2_with fail;go_region_law ((refine step_append_lies _ (by rfl) _ _ _ (by rfl) B 3 i0 _ 1 8 Tryz.underlying91 hi0 hz0 hz1 hz2 (by rfl) (by omega) (.slice aL l.jY.length cL) l.jY.length cells (by rfl) (HW.out _ 1) (Ad w1.heap.size 0) 1 1 [Im l.jC.length] (by rfl) (by rfl) (fM (cs:=#[Im l.jC.length]) (t:=3) (fr:=(0,0)) (aY w1 _)) (by simp[Value.oneCell']) (by omega) hmx hby (by simp;omega) (w1.heap.size+1) (by simp) ?_;intro gg cap1 w3 hown1 hgrow hat hlt;have hu3:=(HP.out _ 1 _ _ _ hgrow hown1 hat).2.2.1;have hf3:=(HP.out _ 1 _ _ _ hgrow hown1 hat).2.2.2));all_goals
  have hm:=(HP.out _ 1 _ _ _ hgrow hown1 hat).1;have hv:=(HP.out _ 1 _ _ _ hgrow hown1 hat).2.1;clear hown1 hgrow hat hlt;go_wp2;go_end0;exact⟨rfl,_,_,_,hm,hv⟩
end
end
section
open Go.RowKit
open Hx (St Bk Ls jO)
section
variable {B:Nat}{w:jo}{L:Nat}{s:jm}{l:Ls}{vs vb vl:jr}
theorem Rn(l:List St):(l.flatMap wK).length=7 * l.length:=by
 induction l with
 |nil=>rfl
 |cons b bs ih=>simp only[c8,aA,ih,aF,wK,bg];omega
theorem afD(l:List St)(i:Nat)(st:St)(h:l[i]? =some st):∃a b,l=a++st::b/\a.length=i:=by
 have hi:i<l.length:=by
  rcases dG i l.length with h'|h'
  .exact h'
  .rw[bV h']at h;cases h
 refine⟨l.take i,l.drop (i+1),?_,by simp;omega⟩;have e:l[i]=st:=by rw[bU hi]at h;exact fZ h
 rw[<-e,List.getElem_cons_drop,List.take_append_drop]
theorem aqP(l:List St)(i:Nat)(st:St)(h:l[i]? =some st)(j:Nat)(hj:j<7):(l.flatMap wK)[i * 7+j]? =(wK st)[j]? :=by
 obtain⟨a,b,rfl,rfl⟩:=afD l i st h;simp only[gu,c8];rw[bW (by rw[Rn];omega),Rn,aT (by simp[wK];omega)]
 congr 1
 omega
theorem aqR(l:List St)(i:Nat)(st:St)(h:l[i]? =some st)(x:Int):(l.flatMap wK).set (i * 7+6) (Im x)=(l.set i {st with ku:=x}).flatMap wK:=by
 obtain⟨a,b,rfl,rfl⟩:=afD l i st h;simp only[gu,c8];rw[iC _ _ (by rw[Rn];omega),Rn,show a.length * 7+6-7 * a.length=6 by omega,List.set_append_left _ _ (by simp[wK]),iC _ _ (aj _)];simp[wK]
theorem jT.BQ(h:jT B w L s l vs vb vl){i:Nat}{st:St}(hst:l.jC[i]? =some st):
 ∃g cap,vs=.slice (some (Ad g 0)) l.jC.length cap/\g<w.heap.size/\¬g=L/\some g≠vb.ownBlock/\some g≠vl.ownBlock/\i<l.jC.length/\zu w g (i * 7) st/\(∀j,w.frozen? (Ad g j)=false):=by
 have hi:i<l.jC.length:=by
  rcases dG i l.jC.length with h'|h'
  .exact h'
  .rw[bV h']at hst;cases hst
 have hrow:=h.jC;have hns:=h.ns;have hsb:=h.sb;have hsl:=h.sl;rcases hrow.2 with⟨h1,h2⟩|⟨g,cap,cur,h1,h2,h3⟩
 .omega
 .have hlt:=(hrow.lt g (by rw[h1];rfl)).2;rw[h1]at hrow hns hsb hsl;have hc:∀j,j<7->w.cell? (Ad g (i * 7+j))=(wK st)[j]? :=λj hj=>by
   rw[hrow.cellAt _ (by omega)];exact aqP _ _ _ hst j hj
  refine⟨g,cap,h1,hlt,λe=>hns (by rw[<-e];rfl),?_,?_,hi,⟨hc 0 (by omega),hc 1 (by omega),hc 2 (by omega),hc 3 (by omega),hc 4 (by omega),hc 5 (by omega),hc 6 (by omega)⟩,λj=>hrow.frozenAt j⟩
  .rcases hsb with e|e
   .cases e
   .exact e
  .rcases hsl with e|e
   .cases e
   .exact e
theorem jT.QK{g cap:Nat}(h:jT B w L s l (.slice (some (Ad g 0)) l.jC.length cap) vb vl){i:Nat}{st:St}(hst:l.jC[i]? =some st)(x:Int):
 jT B (w.setCell (Ad g (i * 7+6)) (Im x)) L s {l with jC:=l.jC.set i {st with ku:=x}} (.slice (some (Ad g 0)) l.jC.length cap) vb vl/\
 jV L w (.slice (some (Ad g 0)) l.jC.length cap) vb vl (w.setCell (Ad g (i * 7+6)) (Im x)) (.slice (some (Ad g 0)) l.jC.length cap) vb vl:=by
 have uQ:¬g=L:=λe=>h.ns (by rw[<-e];rfl);have hc:∀k,(w.setCell (Ad g (i * 7+6)) (Im x)).cell? (Ad L k)=w.cell? (Ad L k):=λk=>bG _ _ _ _ (by intro e;cases e;exact uQ rfl);have hrow:=h.jC;have hst2:=hrow.stored (i * 7+6) (Im x);rw[aqR l.jC i st hst x]at hst2;refine⟨⟨h.bL,by rw[hc];exact h.c0,by rw[hc];exact h.c1,by rw[hc];exact h.c2,by rw[hc];exact h.c3,by rw[hc];exact h.c4,by rw[hc];exact h.c5,by rw[hc];exact h.c6,by rw[hc];exact h.c7,λj=>by rw[dX];exact h.fr j,
  ?_,h.jI.kept hst2.2 (D7 h.sb),h.jY.kept hst2.2 (D7 h.sl),h.ns,h.nb,h.nl,h.sb,h.sl,h.bl⟩,
  ⟨rfl,rfl,rfl,by simp,λk _ _ h2 _ _=>bC _ _ _ _ (λe=>h2 (by rw[e];rfl)),λ_ h=>ji h,λ_ h=>ji h,λ_ h=>ji h⟩⟩
 have:=hst2.1;simpa using this
theorem aee{e:jv}{size g n cap:Nat}{xs:List jr}(h:w.ownsRow B e size (.slice (some (Ad g 0)) (n+1) cap) (n+1) xs):w.ownsRow B e size (.slice (some (Ad g 0)) n cap) n (xs.take (n * size)):=by
 obtain⟨h1,h2⟩:=h;rcases h2 with⟨h3,_⟩|⟨g',cap',cur,h3,h4,h5,h6,h7,h8,h9⟩
 .cases h3
 .obtain⟨rfl,rfl⟩:g=g'/\cap=cap':=by simpa using h3
  have hle:n * size<=(n+1) * size:=gQ _ (by omega);refine⟨by rw[gI,h1];omega,jh ⟨g,cap,cur,rfl,h4,h5,by omega,h7,h8,?_⟩⟩;rw[<-h9,List.take_take,Nat.min_eq_left hle]
end
end
end Go.Proofs.YthllhabjfchgiaaGreatDoor
