import Derived.Test.YthllhabjfchgiaaGreatDoorHz02
import Derived.Deep.RegionLaw
import Derived.Deep.DrawnRows
set_option maxRecDepth 100000
set_option maxHeartbeats 8000000
namespace Go.Proofs.YthllhabjfchgiaaGreatDoor
open _root_.Go.Proofs.Tryz
section
open Go.RowKit
open Hx (St Bk Ls aZ)
section
variable {B:Nat}{w:World}{L:Nat}{s:ByteArray}{l:Ls}{vs vb vl:Value}{aS:Option Addr}{nS cS g n cap:Nat}
theorem Cm(bs:List Bk):(bs.flatMap lV).length=4 * bs.length:=by
 induction bs with
 |nil=>rfl
 |cons b bs ih=>simp only[List.flatMap_cons,List.length_append,ih,List.length_cons,lV,List.length_nil];omega
theorem bn.inner(h:bn B w L s l vs vb vl)(hne:l.aI≠[]):
 ∃g cap init b,vb=.slice (some (Ad g 0)) l.aI.length cap/\l.aI=init++[b]/\l.dM=b/\¬g=L/\B<=g/\g<w.heap.size/\some g≠vs.ownBlock/\some g≠vl.ownBlock/\
  w.cell? (Ad g (init.length * 4))=some (Im b.kQ)/\w.cell? (Ad g (init.length * 4+1))=some (Im b.other)/\
  w.cell? (Ad g (init.length * 4+2))=some (Im b.need)/\w.cell? (Ad g (init.length * 4+3))=some (Im b.before)/\(∀j,w.frozen? (Ad g j)=false):=by
 obtain⟨init,b,hb⟩:∃init b,l.aI=init++[b]:=⟨_,_,(List.dropLast_concat_getLast hne).symm⟩;have hrow:=h.aI;rcases hrow.2 with⟨h1,h2⟩|⟨g,cap,cur,h1,h2,h3⟩
 .rw[hb]at h2;simp at h2
 .have hlt:=hrow.lt g (by rw[h1];rfl);have hnb:=h.nb;have hsb:=h.sb;have hbl:=h.bl;rw[h1]at hrow hnb hsb hbl;have hcell:∀j,j<4->w.cell? (Ad g (init.length * 4+j))=(lV b)[j]? :=fun j hj=>by
   rw[hrow.cellAt _ (by rw[hb];simp;omega),hb];simp only[List.flatMap_append,List.flatMap_cons,List.flatMap_nil,List.append_nil];rw[List.getElem?_append_right (by rw[Cm];omega),Cm]
   congr 1
   omega
  refine⟨g,cap,init,b,h1,hb,by simp[Hx.Ls.dM,hb],fun e=>hnb (by rw[<-e];rfl),h2,hlt.2,?_,?_,hcell 0 (by omega),hcell 1 (by omega),hcell 2 (by omega),hcell 3 (by omega),fun j=>hrow.frozenAt j⟩
  .rcases hsb with e|e
   .rw[e];simp
   .exact fun e'=>e e'.symm
  .rcases hbl with e|e
   .cases e
   .exact e
theorem xA(L g n cap:Nat)(w:World)(hc:w.cell? (Ad L 3)=some (.slice (some (Ad g 0)) (n+1) cap))(hn:n<=1000000):
 Calls prog 168 #[Pt L 0] w fun e w'=>e=.returned (Pt g (n * 4))/\∃k,w'=w.drewN k:=by
 go_enter func168,ntmps168;go_wp2_with fail;go_quiet (fail);go_wp2;go_ret;exact⟨rfl,_,rfl⟩
theorem aax(init:List Bk)(b:Bk)(x:Int):((init++[b]).flatMap lV).set (init.length * 4+2) (Im x)=(init++[{b with need:=x}]).flatMap lV:=by
 simp only[List.flatMap_append,List.flatMap_cons,List.flatMap_nil,List.append_nil];rw[List.set_append_right _ _ (by rw[Cm];omega),Cm,show init.length * 4+2-4 * init.length=2 by omega]
 rfl
theorem bn.agb(h:bn B w L s l vs (.slice (some (Ad g 0)) n cap) vl){init:List Bk}{b:Bk}(hb:l.aI=init++[b])(hn:n=l.aI.length)(x:Int):
 bn B (w.setCell (Ad g (init.length * 4+2)) (Im x)) L s {l with aI:=init++[{b with need:=x}]} vs (.slice (some (Ad g 0)) n cap) vl/\
 bF L w vs (.slice (some (Ad g 0)) n cap) vl (w.setCell (Ad g (init.length * 4+2)) (Im x)) vs (.slice (some (Ad g 0)) n cap) vl:=by
 have nG:¬g=L:=fun e=>h.nb (by rw[<-e];rfl);have hc:∀k,(w.setCell (Ad g (init.length * 4+2)) (Im x)).cell? (Ad L k)=w.cell? (Ad L k):=fun k=>World.cell?_setCell_other _ _ _ _ (by intro e;cases e;exact nG rfl);have hrow:=h.aI;subst hn;have hst:=hrow.stored (init.length * 4+2) (Im x);rw[show(l.aI.flatMap lV).set (init.length * 4+2) (Im x)=(init++[{b with need:=x}]).flatMap lV by rw[hb];exact aax init b x]at hst;have hlen:l.aI.length=(init++[{b with need:=x}]).length:=by rw[hb];simp
 refine⟨⟨h.bL,by rw[hc];exact h.c0,by rw[hc];exact h.c1,by rw[hc];exact h.c2,by rw[hc];exact h.c3,by rw[hc];exact h.c4,by rw[hc];exact h.c5,by rw[hc];exact h.c6,by rw[hc];exact h.c7,fun j=>by rw[World.frozen?_setCell];exact h.fr j,
  h.ay.kept hst.2 (by rcases h.sb with e|e
                      .exact Or.inl e
                      .exact Or.inr e),?_,h.bH.kept hst.2 ?_,h.ns,h.nb,h.nl,h.sb,h.sl,h.bl⟩,?_⟩
 .have:=hst.1;rw[hlen]at this⊢;exact this
 .rcases h.bl with e|e
  .cases e
  .exact Or.inr (fun e'=>e e'.symm)
 .exact⟨rfl,rfl,rfl,by simp,fun k _ _ _ h2 _=>Below.heap_setCell _ _ _ _ (fun e=>h2 (by rw[e];rfl)),fun _ h=>Or.inl h,fun _ h=>Or.inl h,fun _ h=>Or.inl h⟩
theorem JL(h:bn B w L s l vs vb vl)(hne:l.aI≠[])(hlen:l.aI.length<=1000000)(more:Int):
 Calls prog 172 #[Pt L 0,Im more] w fun e w'=>e=.returned (.tuple #[])/\bn B w' L s (l.count more) vs vb vl/\bF L w vs vb vl w' vs vb vl:=by
 obtain⟨g,cap,init,b,rfl,hb,htop,nG,hBg,hgw,hgs,hgl,b0,b1,b2,b3,hf⟩:=h.inner hne;have hn:l.aI.length=init.length+1:=by rw[hb];simp
 have HI:Hid (Calls prog 168 #[Pt L 0] w fun e w'=>e=.returned (Pt g (init.length * 4))/\∃k,w'=w.drewN k):=
  xA L g init.length cap w (by rw[h.c3,hn]) (by omega)
 have HP:Hid (∀k,bn B ((w.drewN k).setCell (Ad g (init.length * 4+2)) (Im (wrap64 (b.need+more)))) L s {l with aI:=init++[{b with need:=wrap64 (b.need+more)}]} vs (.slice (some (Ad g 0)) l.aI.length cap) vl/\
  bF L w vs (.slice (some (Ad g 0)) l.aI.length cap) vl ((w.drewN k).setCell (Ad g (init.length * 4+2)) (Im (wrap64 (b.need+more)))) vs (.slice (some (Ad g 0)) l.aI.length cap) vl):=fun k=>by
  obtain⟨h1,h2⟩:=(h.drewN k).agb hb rfl (wrap64 (b.need+more));exact⟨h1,(bF.grow L w _ _ _ (w':=w.drewN k) ⟨rfl,rfl,rfl,Nat.le_refl _,fun _ _ _=>rfl⟩).trans h2⟩
 have HC:Hid (l.count more={l with aI:=init++[{b with need:=wrap64 (b.need+more)}],bad:=l.bad||decide (40000040<wrap64 (b.need+more))}):=by
  show l.count more=_;simp[Hx.Ls.count,htop,hb]
 have c7:=h.c7;have f7:=h.fr 7;have f2:=hf (init.length * 4+2);have UH:¬L=g:=fun e=>nG e.symm;clear h hne hb htop b0 b1 b3 hf hn hlen;generalize init.length * 4=p at *;by_cases hbad:40000040<wrap64 (b.need+more)
 .have hd:decide (40000040<wrap64 (b.need+more))=true:=by simpa using hbad
  have HD:Hid (decide (40000040<wrap64 (b.need+more))=true):=hd;clear hbad;go_enter func172,ntmps172;go_wp2_with fail;refine(HI.out).mono ?_;rintro e w1 ⟨rfl,k,rfl⟩;go_wp2;go_end0;obtain⟨h1,h2⟩:=HP.out k;refine⟨rfl,?_,h2.trans (bF.own _ _ _ _ _ _ _)⟩;rw[HC.out,HD.out];have:=h1.Dx;simpa using this
 .have hd:decide (40000040<wrap64 (b.need+more))=false:=by simpa using hbad
  have HD:Hid (decide (40000040<wrap64 (b.need+more))=false):=hd;clear hbad;go_enter func172,ntmps172;go_wp2_with fail;refine(HI.out).mono ?_;rintro e w1 ⟨rfl,k,rfl⟩;go_wp2;go_end0;obtain⟨h1,h2⟩:=HP.out k;refine⟨rfl,?_,h2⟩;rw[HC.out,HD.out];simpa using h1
end
end
section
open Go.RowKit
open Hx (Rd Pk Vw St Mc aZ)
attribute [local go_sem ↓] Go.wp_at_zero Go.wp_at_succ
section
variable {B C:Nat}{w:World}{M SB:Nat}{v:Vw}{m:Mc}
theorem ac9:(prog.info? 76).map (fun i=>(i.zero,i.size,i.bytes))=some (some (.agg #[Im 0,Im 0]),2,16):=by kernel_rfl
theorem cu.ZH(h:cu B C w M SB v m){va:Value}(hva:w.ownsRow C 76 2 va m.aY.length (kZ m.aY)){w1:World}(hg:w.grownBy w1 va.ownBlock)
 {v':Value}{Jy:List (Int×Int)}(hown:w1.ownsRow C 76 2 v' Jy.length (kZ Jy)):
 cu B C (w1.setCell (Ad M 12) v') M SB v {m with aY:=Jy}/\Below B w (w1.setCell (Ad M 12) v')/\
 (∃u,w1.cell? (Ad M 12)=some u)/\w1.frozen? (Ad M 12)=false:=by
 have hs:=h.size;have b1:=h.bM;have b2:=h.bS;have c1:=h.cM;have c2:=h.cS;have hne:=h.ne;have Kz:∀k,k<C->some k≠va.ownBlock:=fun k hk e=>by
  have:=(hva.lt k e.symm).1;omega
 have hb:∀k,k<C->w1.heap[k]? =w.heap[k]? :=fun k hk=>hg.block k (by omega) (Kz k hk);have hc1:∀x:Addr,x.block<C->w1.cell? x=w.cell? x:=fun x hx=>World.cell?_of_block (hb _ hx);have hf1:∀x:Addr,x.block<C->w1.frozen? x=w.frozen? x:=fun x hx=>World.frozen?_of_block (hb _ hx);have hc:∀x:Addr,x.block<C->¬x.block=M->(w1.setCell (Ad M 12) v').cell? x=w.cell? x:=fun x hx hM=>by
  rw[World.cell?_setCell_other _ _ _ _ (fun e=>hM (by rw[<-e]))];exact hc1 x hx
 have hcM:∀k,¬k=12->(w1.setCell (Ad M 12) v').cell? (Ad M k)=w.cell? (Ad M k):=fun k hk=>by
  rw[World.cell?_setCell_other _ _ _ _ (by intro e;cases e;exact hk rfl)];exact hc1 _ c1
 obtain⟨YC,acP,_⟩:=h.aY;have h12:w1.cell? (Ad M 12)=some YC:=by rw[hc1 _ c1];exact acP
 have hsz:=hg.size;refine⟨⟨?_,h.bM,h.bS,h.cM,h.cS,h.ne,by simp;omega,?_,?_,?_,?_,?_,h.KT,?_,?_,h.yM,h.CZ,?_,h.one⟩,?_,⟨YC,h12⟩,by rw[hf1 _ c1];exact h.Eh⟩
 .exact h.view.aN (fun x hx=>hc x (by omega) (by omega)) (fun k hk=>hcM k (by omega))
 .rw[hcM 3 (by omega)];exact h.aF
 .intro k hk;rw[hc _ c2 (fun e=>hne e.symm)];exact h.slot k hk
 .intro k hk;rw[World.frozen?_setCell,hf1 _ c2];exact h.xK k hk
 .intro k hk;rw[hcM _ (by omega)];exact h.left k hk
 .intro k hk;rw[World.frozen?_setCell,hf1 _ c1];exact h.EN k hk
 .refine⟨v',World.cell?_setCell_same _ _ _ h12,hown.kept (pO w1 (Ad M 12) v') ?_⟩;cases hb:v'.ownBlock with
  |none=>exact Or.inl rfl
  |some g=>
   right;have:=(hown.lt g hb).1;simp;omega
 .rw[World.frozen?_setCell,hf1 _ c1];exact h.Eh
 .intro j hj;have:=h.one;rw[hc _ (by show 1<_;omega) (by show¬1=M;omega)];exact h.aU j hj
 .exact((Below.refl _ _).grown hg (by omega) (fun k hk=>by have:=(hva.lt k hk).1;omega)).setCell (p:=(Ad M 12)) h.bM _
theorem af2(hm:cu B C w M SB v m)(i j:Int)(r:Rd)(p:Pk)(hj:j<=9223372036854775807)(hr:v.aK i=some r)(hp:v.pW j=some p)(hl:m.aY.length<256):
 Calls prog 54 #[Pt M 0,Im i,Im j] w fun e w'=>e=.returned (.bool true)/\cu B C w' M SB v {m with aY:=m.aY++[(r.id,p.seq)]}/\Below B w w':=by
 have HR:Hid (Calls prog 97 #[Pt M 0,Im i] w fun e w'=>(∃p,e=.returned p/\vG w p (some r))/\w'=w):=by
  have:=LW B M i v w hm.view
  rwa [hr]at this
 have HQ:Hid (Calls prog 98 #[Pt M 0,Im j] w fun e w'=>(∃q,e=.returned q/\vF w q (some p))/\w'=w):=by
  have:=LJ B M j v w hm.view hj
  rwa [hp]at this
 obtain⟨va,hva,hown⟩:=hm.aY;have hlen:(m.aY.length:Int)<256:=by omega
 have hne:((m.aY.length:Int)==256)=false:=by simp;omega
 have fa:=hm.Eh;obtain⟨aa,cap,hval⟩:∃aa cap,va=.slice aa m.aY.length cap:=by
  obtain⟨h1,h2⟩:=hown;rcases h2 with⟨h3,h4⟩|⟨g,cap,cur,h3,h4⟩
  .exact⟨none,0,by rw[h3,h4]⟩
  .exact⟨_,_,h3⟩
 obtain⟨i0,hi0,hz0,hz1,hz2⟩:=info_parts ac9;have HP:Hid (∀(o:Obj)(n:Nat)(w1:World)(v':Value),((w.alloc o).drewN n).grownBy w1 va.ownBlock->w1.ownsRow C 76 2 v' (m.aY.length+1) (kZ m.aY++[Im r.id,Im p.seq])->
  cu B C (w1.setCell (Ad M 12) v') M SB v {m with aY:=m.aY++[(r.id,p.seq)]}/\Below B w (w1.setCell (Ad M 12) v')/\(∃u,w1.cell? (Ad M 12)=some u)/\w1.frozen? (Ad M 12)=false):=by
  intro o n w1 v' hg ho;have hm':=(hm.alloc o).drewN n;have e1:kZ (m.aY++[(r.id,p.seq)])=kZ m.aY++[Im r.id,Im p.seq]:=by simp[kZ]
  have e2:(m.aY++[(r.id,p.seq)]).length=m.aY.length+1:=by simp
  have hown2:w1.ownsRow C 76 2 v' (m.aY++[(r.id,p.seq)]).length (kZ (m.aY++[(r.id,p.seq)])):=by rw[e1,e2];exact ho
  obtain⟨h1,h2,h3,h4⟩:=hm'.ZH (va:=va) ((hown.alloc o).kept (w':=(w.alloc o).drewN n) (row:=none) ⟨rfl,rfl,rfl,Nat.le_refl _,fun _ _ _=>rfl⟩ (by cases va.ownBlock<;>simp)) hg hown2;exact⟨h1,(below_drewN ((Below.refl _ _).alloc (by have:=hm.size;have:=hm.cM;have:=hm.bM;omega) o) n).trans h2,h3,h4⟩
 have hO:∀(o:Obj)(n:Nat),((w.alloc o).drewN n).ownsRow C 76 2 va m.aY.length (kZ m.aY):=fun o n=>
  (hown.alloc o).kept (w':=(w.alloc o).drewN n) (row:=none) ⟨rfl,rfl,rfl,Nat.le_refl _,fun _ _ _=>rfl⟩ (by cases va.ownBlock<;>simp)
 have HO:Hid (∀(o:Obj)(n:Nat),((w.alloc o).drewN n).ownsRow C 76 2 va m.aY.length (kZ m.aY)):=hO;have hsz:=hm.size;have hMs:M<w.heap.size:=by have:=hm.cM;omega
 have hmx:m.aY.length+1<=maxLen:=by unfold maxLen;omega
 have hby:(m.aY.length+1) * 16<=140737488355328:=by omega
 subst hval;clear hO hown hm hr hp;generalize kZ m.aY=cells at *;generalize m.aY++[(r.id,p.seq)]=Jy at *;generalize m.aY.length=len at *;go_enter func54,ntmps54;go_wp2_with fail;refine(HR.out).mono ?_;rintro e w1 ⟨⟨pr,rfl,b1,o1,rfl,r1,r2,r3,r4,r5⟩,rfl⟩;go_wp2_with fail;refine(HQ.out).mono ?_;rintro e w2 ⟨⟨pp,rfl,b2,o2,rfl,q1,q2,q3⟩,rfl⟩;go_wp2_with fail;go_region_law ((refine step_append_lies _ (by rfl) _ _ _ (by rfl) C 76 i0 _ 2 16 Tryz.underlying33 hi0 hz0 hz1 hz2 (by rfl) (by omega) (.slice aa len cap) len cells (by rfl) (HO.out _ 1) (Ad w2.heap.size 0) 1 1 [Im r.id,Im p.seq] (by rfl) (by rfl) (World.news_of_block (cs:=#[Im r.id,Im p.seq]) (t:=76) (fr:=(0,0)) (heap_alloc_new w2 _)) (by simp[Value.oneCell']) (by omega) hmx hby (by simp;omega) (w2.heap.size+1) (by simp) ?_;intro gg cap1 w3 hown1 hgrow hat hlt;obtain⟨u12,Hg⟩:=(HP.out _ 1 _ _ hgrow hown1).2.2.1;have G6:=(HP.out _ 1 _ _ hgrow hown1).2.2.2));all_goals (go_wp2;go_ret;exact⟨rfl,(HP.out _ 1 _ _ hgrow hown1).1,(HP.out _ 1 _ _ hgrow hown1).2.1⟩)
theorem Xb(hm:cu B C w M SB v m)(i j:Int)(hj:j<=9223372036854775807)(hn:v.aK i=none\/v.pW j=none):
 Calls prog 54 #[Pt M 0,Im i,Im j] w fun e w'=>e=.returned (.bool true)/\w'=w:=by
 have HR:Hid (Calls prog 97 #[Pt M 0,Im i] w fun e w'=>(∃p,e=.returned p/\vG w p (v.aK i))/\w'=w):=LW B M i v w hm.view;have HQ:Hid (Calls prog 98 #[Pt M 0,Im j] w fun e w'=>(∃q,e=.returned q/\vF w q (v.pW j))/\w'=w):=LJ B M j v w hm.view hj;clear hm;generalize v.aK i=rd at *;generalize v.pW j=pk at *;cases rd with
 |none=>
  go_enter func54,ntmps54;go_wp2_with fail;refine(HR.out).mono ?_;rintro e w1 ⟨⟨pr,rfl,rfl⟩,rfl⟩;go_wp2_with fail;refine(HQ.out).mono ?_;rintro e w2 ⟨⟨pp,rfl,hq⟩,rfl⟩;go_wp2;go_ret;exact⟨rfl,rfl⟩
 |some r=>
  obtain rfl:pk=none:=hn.resolve_left (by simp);go_enter func54,ntmps54;go_wp2_with fail;refine(HR.out).mono ?_;rintro e w1 ⟨⟨pr,rfl,b1,o1,rfl,r1,r2,r3,r4,r5⟩,rfl⟩;go_wp2_with fail;refine(HQ.out).mono ?_;rintro e w2 ⟨⟨pp,rfl,rfl⟩,rfl⟩;go_wp2;go_ret;exact⟨rfl,rfl⟩
theorem af0(hm:cu B C w M SB v m)(i j:Int)(r:Rd)(p:Pk)(hj:j<=9223372036854775807)(hr:v.aK i=some r)(hp:v.pW j=some p)(hl:m.aY.length=256):
 Calls prog 54 #[Pt M 0,Im i,Im j] w fun e w'=>e=.returned (.bool false)/\w'=w:=by
 have HR:Hid (Calls prog 97 #[Pt M 0,Im i] w fun e w'=>(∃p,e=.returned p/\vG w p (some r))/\w'=w):=by
  have:=LW B M i v w hm.view
  rwa [hr]at this
 have HQ:Hid (Calls prog 98 #[Pt M 0,Im j] w fun e w'=>(∃q,e=.returned q/\vF w q (some p))/\w'=w):=by
  have:=LJ B M j v w hm.view hj
  rwa [hp]at this
 obtain⟨va,hva,hown⟩:=hm.aY;obtain⟨aa,cap,hval⟩:∃aa cap,va=.slice aa 256 cap:=by
  obtain⟨h1,h2⟩:=hown;rcases h2 with⟨h3,h4⟩|⟨g,cap,cur,h3,h4⟩
  .omega
  .exact⟨_,_,by rw[h3,hl]⟩
 subst hval;clear hown hm hr hp hl;go_enter func54,ntmps54;go_wp2_with fail;refine(HR.out).mono ?_;rintro e w1 ⟨⟨pr,rfl,b1,o1,rfl,r1,r2,r3,r4,r5⟩,rfl⟩;go_wp2_with fail;refine(HQ.out).mono ?_;rintro e w2 ⟨⟨pp,rfl,b2,o2,rfl,q1,q2,q3⟩,rfl⟩;go_wp2;go_ret;exact⟨rfl,rfl⟩
end
end
section
open Go.RowKit
open Hx (St Bk Ls aZ)
attribute [local go_sem ↓] Go.wp_at_zero Go.wp_at_succ
section
variable {B:Nat}{w:World}{L:Nat}{s:ByteArray}{l:Ls}{vs vb vl:Value}
theorem bn.air(h:bn B w L s l vs vb vl){w1:World}(hg:w.grownBy w1 vs.ownBlock){vs':Value}{steps':List St}(hown:w1.ownsRow B 125 7 vs' steps'.length (steps'.flatMap qh))
 (hat:∀g,vs'.ownBlock=some g->vs.ownBlock=some g\/w.heap.size<=g):
 bn B (w1.setCell (Ad L 2) vs') L s {l with ay:=steps'} vs' vb vl/\bF L w vs vb vl (w1.setCell (Ad L 2) vs') vs' vb vl/\w1.cell? (Ad L 2)=some vs/\w1.frozen? (Ad L 2)=false:=by
 have hL:=h.lt;have hbL:w1.heap[L]? =w.heap[L]? :=hg.block L hL (fun e=>h.ns e.symm);have hc1:∀j,w1.cell? (Ad L j)=w.cell? (Ad L j):=fun j=>World.cell?_of_block hbL;have hf1:∀j,w1.frozen? (Ad L j)=w.frozen? (Ad L j):=fun j=>World.frozen?_of_block hbL;have hc:∀j,¬j=2->(w1.setCell (Ad L 2) vs').cell? (Ad L j)=w.cell? (Ad L j):=fun j hj=>by
  rw[World.cell?_setCell_other _ _ _ _ (by intro e;cases e;exact hj rfl)];exact hc1 j
 have h2:w1.cell? (Ad L 2)=some vs:=by rw[hc1];exact h.c2
 have ns':vs'.ownBlock≠some L:=fun e=>by
  rcases hat L e with h1|h1
  .exact h.ns h1
  .omega
 have lK:∀{v:Value},(vs.ownBlock=none\/vs.ownBlock≠v.ownBlock)->(∀g,v.ownBlock=some g->g<w.heap.size)->vs'.ownBlock=none\/vs'.ownBlock≠v.ownBlock:=fun{v} hv hlt=>by
  cases hq:vs'.ownBlock with
  |none=>exact Or.inl rfl
  |some g=>
   refine Or.inr (fun e=>?_);have hg':=hlt g e.symm;rcases hat g hq with h1|h1
   .rcases hv with h3|h3
    .rw[h3]at h1;cases h1
    .exact h3 (h1.trans e)
   .omega
 have hbw:w.ownsRow B 226 4 vb l.aI.length (l.aI.flatMap lV):=h.aI;have CW:=h.bH;have hg2:=pO w1 (Ad L 2) vs';refine⟨⟨h.bL,by rw[hc 0 (by omega)];exact h.c0,by rw[hc 1 (by omega)];exact h.c1,World.cell?_setCell_same _ _ _ h2,by rw[hc 3 (by omega)];exact h.c3,by rw[hc 4 (by omega)];exact h.c4,by rw[hc 5 (by omega)];exact h.c5,by rw[hc 6 (by omega)];exact h.c6,by rw[hc 7 (by omega)];exact h.c7,
  fun j=>by rw[World.frozen?_setCell,hf1];exact h.fr j,hown.kept hg2 (Or.inr ns'),(hbw.kept hg ?_).kept hg2 (Or.inr h.nb),(CW.kept hg ?_).kept hg2 (Or.inr h.nl),ns',h.nb,h.nl,lK h.sb (fun g e=>(hbw.lt g e).2),lK h.sl (fun g e=>(CW.lt g e).2),h.bl⟩,?_,h2,by rw[hf1];exact h.fr 2⟩
 .cases hq:vb.ownBlock with
  |none=>exact Or.inl rfl
  |some g=>
   refine Or.inr (fun e=>?_);rcases h.sb with h3|h3
   .rw[h3]at e;cases e
   .exact h3 (by rw[hq];exact e.symm)
 .cases hq:vl.ownBlock with
  |none=>exact Or.inl rfl
  |some g=>
   refine Or.inr (fun e=>?_);rcases h.sl with h3|h3
   .rw[h3]at e;cases e
   .exact h3 (by rw[hq];exact e.symm)
 .refine⟨hg.os,hg.tape,hg.output,by simpa using hg.size,fun k hk G8 h1 _ _=>?_,hat,fun _ h=>Or.inl h,fun _ h=>Or.inl h⟩;rw[Below.heap_setCell _ _ _ _ G8];exact hg.block k hk h1
theorem GZ(w:World)(o1 o2:Obj):((w.alloc o1).alloc o2).drew.heap[w.heap.size+1]? =some o2:=by
 have:=heap_alloc_new (w.alloc o1) o2
 rwa [World.size_alloc]at this
theorem adh:(prog.info? 125).map (fun i=>(i.zero,i.size,i.bytes))=some (some (.agg #[.int .u8 0,Im 0,Im 0,Im 0,Im 0,Im 0,Im 0]),7,56):=by kernel_rfl
theorem wJ{base:Nat}{e:TypeId}{size n:Nat}{v:Value}{xs:List Value}(h:w.ownsRow base e size v n xs):∃a c,v=.slice a n c:=by
 rcases h.2 with⟨h1,h2⟩|⟨g,cap,cur,h1,h2⟩
 .exact⟨none,0,by rw[h1,h2]⟩
 .exact⟨_,_,h1⟩
theorem Ei(h:bn B w L s l vs vb vl)(hne:l.aI≠[])(hlb:l.aI.length<=1000000)(hls:l.ay.length<=1000000)(q a b c d dp t:Int):
 Calls prog 118 #[Pt L 0,.agg #[.int .u8 q,Im a,Im b,Im c,Im d,Im dp,Im t]] w fun e w'=>e=.returned (.tuple #[])/\
  ∃vs',bn B w' L s (Hx.Ls.count {l with ay:=l.ay++[⟨q,a,b,c,d,dp,t⟩]} 1) vs' vb vl/\bF L w vs vb vl w' vs' vb vl:=by
 obtain⟨aS,cS,rfl⟩:=wJ h.ay;obtain⟨i0,hi0,hz0,hz1,hz2⟩:=info_parts adh;have HP:Hid (∀(o1 o2:Obj)(k:Nat)(w1:World)(g cap:Nat),(((w.alloc o1).alloc o2).drewN k).grownBy w1 (Value.slice aS l.ay.length cS).ownBlock->
  w1.ownsRow B 125 7 (.slice (some (Ad g 0)) (l.ay.length+1) cap) (l.ay.length+1) (l.ay.flatMap qh++[.int .u8 q,Im a,Im b,Im c,Im d,Im dp,Im t])->
  ((Value.slice aS l.ay.length cS).ownBlock=some g\/g=w.heap.size+1+1)->
  bn B (w1.setCell (Ad L 2) (.slice (some (Ad g 0)) (l.ay.length+1) cap)) L s {l with ay:=l.ay++[⟨q,a,b,c,d,dp,t⟩]} (.slice (some (Ad g 0)) (l.ay.length+1) cap) vb vl/\
  bF L w (.slice aS l.ay.length cS) vb vl (w1.setCell (Ad L 2) (.slice (some (Ad g 0)) (l.ay.length+1) cap)) (.slice (some (Ad g 0)) (l.ay.length+1) cap) vb vl/\
  w1.cell? (Ad L 2)=some (.slice aS l.ay.length cS)/\w1.frozen? (Ad L 2)=false):=by
  intro o1 o2 k w1 g cap hg ho hat;have hW:=((h.alloc o1).alloc o2).drewN k;have e1:(l.ay++[(⟨q,a,b,c,d,dp,t⟩:St)]).length=l.ay.length+1:=by simp
  have e2:(l.ay++[(⟨q,a,b,c,d,dp,t⟩:St)]).flatMap qh=l.ay.flatMap qh++[.int .u8 q,Im a,Im b,Im c,Im d,Im dp,Im t]:=by simp[qh]
  have hsz:(((w.alloc o1).alloc o2).drewN k).heap.size=w.heap.size+1+1:=by simp
  obtain⟨h1,h2,h3,h4⟩:=hW.air hg (vs':=.slice (some (Ad g 0)) (l.ay.length+1) cap) (steps':=l.ay++[⟨q,a,b,c,d,dp,t⟩]) (by rw[e1,e2];exact ho) (fun g' hg'=>by
   have:g=g':=by simpa [Value.ownBlock]using hg'
   subst this;rcases hat with h5|h5
   .exact Or.inl h5
   .exact Or.inr (by rw[hsz];omega))
  exact⟨h1,(bF.grow L w _ _ _ (w':=((w.alloc o1).alloc o2).drewN k) ((World.grownBy_alloc w o1 none).trans ((World.grownBy_alloc _ o2 none).trans ⟨rfl,rfl,rfl,Nat.le_refl _,fun _ _ _=>rfl⟩))).trans h2,h3,h4⟩
 have HO:Hid (∀(o1 o2:Obj)(k:Nat),(((w.alloc o1).alloc o2).drewN k).ownsRow B 125 7 (.slice aS l.ay.length cS) l.ay.length (l.ay.flatMap qh)):=fun o1 o2 k=>(((h.alloc o1).alloc o2).drewN k).ay;have HC:Hid (∀(w2:World)(vs2:Value),bn B w2 L s {l with ay:=l.ay++[⟨q,a,b,c,d,dp,t⟩]} vs2 vb vl->
  Calls prog 172 #[Pt L 0,Im 1] w2 fun e w'=>e=.returned (.tuple #[])/\bn B w' L s (Hx.Ls.count {l with ay:=l.ay++[⟨q,a,b,c,d,dp,t⟩]} 1) vs2 vb vl/\bF L w2 vs2 vb vl w' vs2 vb vl):=fun w2 vs2 h2=>
  JL h2 hne hlb 1
 have c2:=h.c2;have hL:=h.lt;have hBw:B<=w.heap.size:=by have:=h.bL;omega
 have n1:¬L=w.heap.size:=by omega
 have n2:¬L=w.heap.size+1:=by omega
 have hmx:l.ay.length+1<=maxLen:=by unfold maxLen;omega
 have hby:(l.ay.length+1) * 56<=140737488355328:=by omega
 clear h hne hlb hls;generalize Hx.Ls.count {l with ay:=l.ay++[⟨q,a,b,c,d,dp,t⟩]} 1=l2 at *;generalize ({l with ay:=l.ay++[⟨q,a,b,c,d,dp,t⟩]}:Ls)=l1 at *;generalize l.ay.flatMap qh=cells at *;generalize l.ay.length=len at *;go_enter func118,ntmps118;go_wp2_with fail;go_region_law ((refine step_append_lies _ (by rfl) _ _ _ (by rfl) B 125 i0 _ 7 56 Tryz.underlying118 hi0 hz0 hz1 hz2 (by rfl) (by omega) (.slice aS len cS) len cells (by rfl) (HO.out _ _ 1) (Ad (w.heap.size+1) 0) 1 1 [.int .u8 q,Im a,Im b,Im c,Im d,Im dp,Im t] (by rfl) (by rfl) (World.news_of_block (cs:=#[.int .u8 q,Im a,Im b,Im c,Im d,Im dp,Im t]) (t:=125) (fr:=(0,0)) (GZ w _ _)) (by simp[Value.oneCell']) (by omega) hmx hby (by simp;omega) (w.heap.size+1+1) (by simp) ?_;intro gg cap1 w3 hown1 hgrow hat hlt;have hu2:=(HP.out _ _ 1 _ _ _ hgrow hown1 hat).2.2.1;have hf2:=(HP.out _ _ 1 _ _ _ hgrow hown1 hat).2.2.2));all_goals
  have hm:=(HP.out _ _ 1 _ _ _ hgrow hown1 hat).1;have hv:=(HP.out _ _ 1 _ _ _ hgrow hown1 hat).2.1;have HM:Hid (bn B (w3.setCell (Ad L 2) (.slice (some (Ad gg 0)) (len+1) cap1)) L s l1 (.slice (some (Ad gg 0)) (len+1) cap1) vb vl/\bF L w (.slice aS len cS) vb vl (w3.setCell (Ad L 2) (.slice (some (Ad gg 0)) (len+1) cap1)) (.slice (some (Ad gg 0)) (len+1) cap1) vb vl):=⟨hm,hv⟩;clear hm hv hu2 hf2 hown1 hgrow hat hlt;go_wp2_with fail;refine(HC.out _ _ HM.out.1).mono ?_;rintro e w4 ⟨rfl,h5,h6⟩;go_wp2;go_end0;exact⟨rfl,_,h5,HM.out.2.trans h6⟩
theorem zG{u v:Value}(h:u.ownBlock=none\/u.ownBlock≠v.ownBlock):v.ownBlock=none\/v.ownBlock≠u.ownBlock:=by
 cases hv:v.ownBlock with
 |none=>exact Or.inl rfl
 |some g=>
  refine Or.inr (fun e=>?_);rcases h with h|h
  .rw[h]at e;cases e
  .exact h (by rw[hv];exact e.symm)
theorem JA{w:World}{v v' u:Value}(hv:v.ownBlock=none\/v.ownBlock≠u.ownBlock)(hat:∀g,v'.ownBlock=some g->v.ownBlock=some g\/w.heap.size<=g)(hlt:∀g,u.ownBlock=some g->g<w.heap.size):v'.ownBlock=none\/v'.ownBlock≠u.ownBlock:=by
 cases hq:v'.ownBlock with
 |none=>exact Or.inl rfl
 |some g=>
  refine Or.inr (fun e=>?_);have hg':=hlt g e.symm;rcases hat g hq with h1|h1
  .rcases hv with h3|h3
   .rw[h3]at h1;cases h1
   .exact h3 (h1.trans e)
  .omega
theorem bn.NI(h:bn B w L s l vs vb vl){w1:World}(hg:w.grownBy w1 vb.ownBlock){bV:Value}{blocks':List Bk}(hown:w1.ownsRow B 226 4 bV blocks'.length (blocks'.flatMap lV))
 (hat:∀g,bV.ownBlock=some g->vb.ownBlock=some g\/w.heap.size<=g):
 bn B (w1.setCell (Ad L 3) bV) L s {l with aI:=blocks'} vs bV vl/\bF L w vs vb vl (w1.setCell (Ad L 3) bV) vs bV vl/\w1.cell? (Ad L 3)=some vb/\w1.frozen? (Ad L 3)=false:=by
 have hL:=h.lt;have hbL:w1.heap[L]? =w.heap[L]? :=hg.block L hL (fun e=>h.nb e.symm);have hc1:∀j,w1.cell? (Ad L j)=w.cell? (Ad L j):=fun j=>World.cell?_of_block hbL;have hf1:∀j,w1.frozen? (Ad L j)=w.frozen? (Ad L j):=fun j=>World.frozen?_of_block hbL;have hc:∀j,¬j=3->(w1.setCell (Ad L 3) bV).cell? (Ad L j)=w.cell? (Ad L j):=fun j hj=>by
  rw[World.cell?_setCell_other _ _ _ _ (by intro e;cases e;exact hj rfl)];exact hc1 j
 have h3:w1.cell? (Ad L 3)=some vb:=by rw[hc1];exact h.c3
 have nb':bV.ownBlock≠some L:=fun e=>by
  rcases hat L e with h1|h1
  .exact h.nb h1
  .omega
 have hsw:=h.ay;have CW:=h.bH;have hg2:=pO w1 (Ad L 3) bV;exact⟨⟨h.bL,by rw[hc 0 (by omega)];exact h.c0,by rw[hc 1 (by omega)];exact h.c1,by rw[hc 2 (by omega)];exact h.c2,World.cell?_setCell_same _ _ _ h3,by rw[hc 4 (by omega)];exact h.c4,by rw[hc 5 (by omega)];exact h.c5,by rw[hc 6 (by omega)];exact h.c6,by rw[hc 7 (by omega)];exact h.c7,
  fun j=>by rw[World.frozen?_setCell,hf1];exact h.fr j,(hsw.kept hg h.sb).kept hg2 (Or.inr h.ns),hown.kept hg2 (Or.inr nb'),(CW.kept hg (zG h.bl)).kept hg2 (Or.inr h.nl),h.ns,nb',h.nl,
  zG (JA (zG h.sb) hat (fun g e=>(hsw.lt g e).2)),h.sl,JA h.bl hat (fun g e=>(CW.lt g e).2)⟩,
  ⟨hg.os,hg.tape,hg.output,by simpa using hg.size,fun k hk G8 _ h2 _=>by rw[Below.heap_setCell _ _ _ _ G8];exact hg.block k hk h2,fun _ h=>Or.inl h,hat,fun _ h=>Or.inl h⟩,h3,by rw[hf1];exact h.fr 3⟩
theorem bn.VI(h:bn B w L s l vs vb vl){w1:World}(hg:w.grownBy w1 vl.ownBlock){dI:Value}{loops':List Int}(hown:w1.ownsRow B 3 1 dI loops'.length (loops'.map (Value.int .i64)))
 (hat:∀g,dI.ownBlock=some g->vl.ownBlock=some g\/w.heap.size<=g):
 bn B (w1.setCell (Ad L 4) dI) L s {l with bH:=loops'} vs vb dI/\bF L w vs vb vl (w1.setCell (Ad L 4) dI) vs vb dI/\w1.cell? (Ad L 4)=some vl/\w1.frozen? (Ad L 4)=false:=by
 have hL:=h.lt;have hbL:w1.heap[L]? =w.heap[L]? :=hg.block L hL (fun e=>h.nl e.symm);have hc1:∀j,w1.cell? (Ad L j)=w.cell? (Ad L j):=fun j=>World.cell?_of_block hbL;have hf1:∀j,w1.frozen? (Ad L j)=w.frozen? (Ad L j):=fun j=>World.frozen?_of_block hbL;have hc:∀j,¬j=4->(w1.setCell (Ad L 4) dI).cell? (Ad L j)=w.cell? (Ad L j):=fun j hj=>by
  rw[World.cell?_setCell_other _ _ _ _ (by intro e;cases e;exact hj rfl)];exact hc1 j
 have h4:w1.cell? (Ad L 4)=some vl:=by rw[hc1];exact h.c4
 have nl':dI.ownBlock≠some L:=fun e=>by
  rcases hat L e with h1|h1
  .exact h.nl h1
  .omega
 have hsw:=h.ay;have hbw:=h.aI;have hg2:=pO w1 (Ad L 4) dI;exact⟨⟨h.bL,by rw[hc 0 (by omega)];exact h.c0,by rw[hc 1 (by omega)];exact h.c1,by rw[hc 2 (by omega)];exact h.c2,by rw[hc 3 (by omega)];exact h.c3,World.cell?_setCell_same _ _ _ h4,by rw[hc 5 (by omega)];exact h.c5,by rw[hc 6 (by omega)];exact h.c6,by rw[hc 7 (by omega)];exact h.c7,
  fun j=>by rw[World.frozen?_setCell,hf1];exact h.fr j,(hsw.kept hg h.sl).kept hg2 (Or.inr h.ns),(hbw.kept hg h.bl).kept hg2 (Or.inr h.nb),hown.kept hg2 (Or.inr nl'),h.ns,h.nb,nl',
  h.sb,zG (JA (zG h.sl) hat (fun g e=>(hsw.lt g e).2)),zG (JA (zG h.bl) hat (fun g e=>(hbw.lt g e).2))⟩,
  ⟨hg.os,hg.tape,hg.output,by simpa using hg.size,fun k hk G8 _ _ h3=>by rw[Below.heap_setCell _ _ _ _ G8];exact hg.block k hk h3,fun _ h=>Or.inl h,fun _ h=>Or.inl h,hat⟩,h4,by rw[hf1];exact h.fr 4⟩
theorem ada:(prog.info? 226).map (fun i=>(i.zero,i.size,i.bytes))=some (some (.agg #[Im 0,Im 0,Im 0,Im 0]),4,32):=by kernel_rfl
theorem Wy(h:bn B w L s l vs vb vl)(hne:l.aI≠[])(hlb:l.aI.length<=900000)(hls:l.ay.length<=900000)(q a b c d dp t:Int):
 Calls prog 113 #[Pt L 0,.agg #[.int .u8 q,Im a,Im b,Im c,Im d,Im dp,Im t]] w fun e w'=>e=.returned (.tuple #[])/\
  ∃vs' bV,bn B w' L s (sD l ⟨q,a,b,c,d,dp,t⟩) vs' bV vl/\bF L w vs vb vl w' vs' bV vl:=by
 obtain⟨i0,hi0,hz0,hz1,hz2⟩:=info_parts ada;have HA:Hid (∀o,Calls prog 118 #[Pt L 0,.agg #[.int .u8 q,Im a,Im b,Im c,Im d,Im dp,Im t]] (w.alloc o) fun e w'=>e=.returned (.tuple #[])/\
  ∃vs',bn B w' L s (fE l ⟨q,a,b,c,d,dp,t⟩) vs' vb vl/\bF L w vs vb vl w' vs' vb vl):=fun o=>by
  refine(Ei (h.alloc o) hne (by omega) (by omega) q a b c d dp t).mono ?_;rintro e w' ⟨h1,vs',h2,h3⟩;exact⟨h1,vs',h2,(bF.grow L w _ _ _ (World.grownBy_alloc w o none)).trans h3⟩
 have hl1:(fE l ⟨q,a,b,c,d,dp,t⟩).aI.length=l.aI.length:=Jz l _ hne;have hl2:(fE l ⟨q,a,b,c,d,dp,t⟩).ay.length=l.ay.length+1:=by rw[Gp];simp
 have HO:Hid (sD l ⟨q,a,b,c,d,dp,t⟩={fE l ⟨q,a,b,c,d,dp,t⟩with aI:=(fE l ⟨q,a,b,c,d,dp,t⟩).aI++[⟨l.ay.length,0,0,0⟩]}):=rfl;have hL:=h.lt;have hBL:=h.bL;clear h hne;generalize sD l ⟨q,a,b,c,d,dp,t⟩=l2 at *;generalize fE l ⟨q,a,b,c,d,dp,t⟩=l1 at *;generalize l.ay.length=len at *;have qm:Hid (l1.aI.length=l.aI.length):=hl1;have HL2:Hid (l1.ay.length=len+1):=hl2;clear hl1 hl2;have n1:¬L=w.heap.size:=by omega
 go_enter func113,ntmps113;go_wp2_with fail;refine(HA.out _).mono ?_;rintro e w1 ⟨rfl,vs1,h1,m1⟩;obtain⟨aS,cS,hvs⟩:=wJ h1.ay;obtain⟨aB,cB,hvb⟩:=wJ h1.aI;rw[HL2.out]at hvs;subst hvs;subst hvb;have HP:Hid (∀(o:Obj)(k:Nat)(w2:World)(g cap:Nat),((w1.alloc o).drewN k).grownBy w2 (Value.slice aB l1.aI.length cB).ownBlock->
  w2.ownsRow B 226 4 (.slice (some (Ad g 0)) (l1.aI.length+1) cap) (l1.aI.length+1) (l1.aI.flatMap lV++[Im len,Im 0,Im 0,Im 0])->
  ((Value.slice aB l1.aI.length cB).ownBlock=some g\/g=w1.heap.size+1)->
  bn B (w2.setCell (Ad L 3) (.slice (some (Ad g 0)) (l1.aI.length+1) cap)) L s l2 (.slice aS (len+1) cS) (.slice (some (Ad g 0)) (l1.aI.length+1) cap) vl/\
  bF L w vs (.slice aB l1.aI.length cB) vl (w2.setCell (Ad L 3) (.slice (some (Ad g 0)) (l1.aI.length+1) cap)) (.slice aS (len+1) cS) (.slice (some (Ad g 0)) (l1.aI.length+1) cap) vl/\
  w2.cell? (Ad L 3)=some (.slice aB l1.aI.length cB)/\w2.frozen? (Ad L 3)=false):=by
  intro o k w2 g cap hg ho hat;have hW:=(h1.alloc o).drewN k;have hsz:((w1.alloc o).drewN k).heap.size=w1.heap.size+1:=by simp
  obtain⟨g1,g2,g3,g4⟩:=hW.NI hg (bV:=.slice (some (Ad g 0)) (l1.aI.length+1) cap) (blocks':=l1.aI++[⟨len,0,0,0⟩]) (by
   have e1:(l1.aI++[(⟨len,0,0,0⟩:Bk)]).length=l1.aI.length+1:=by simp
   have e2:(l1.aI++[(⟨len,0,0,0⟩:Bk)]).flatMap lV=l1.aI.flatMap lV++[Im len,Im 0,Im 0,Im 0]:=by simp[lV]
   rw[e1,e2];exact ho) (fun g' hg'=>by
   have:g=g':=by simpa [Value.ownBlock]using hg'
   subst this;rcases hat with h5|h5
   .exact Or.inl h5
   .exact Or.inr (by rw[hsz];omega))
  rw[HO.out];exact⟨g1,m1.trans ((bF.grow L w1 _ _ _ (w':=(w1.alloc o).drewN k) ((World.grownBy_alloc w1 o none).trans ⟨rfl,rfl,rfl,Nat.le_refl _,fun _ _ _=>rfl⟩)).trans g2),g3,g4⟩
 have HW:Hid (∀(o:Obj)(k:Nat),((w1.alloc o).drewN k).ownsRow B 226 4 (.slice aB l1.aI.length cB) l1.aI.length (l1.aI.flatMap lV)):=fun o k=>((h1.alloc o).drewN k).aI;have c2:=h1.c2;have c3:=h1.c3;have hL1:=h1.lt;have hmx:l1.aI.length+1<=maxLen:=by have:=qm.out;unfold maxLen;omega
 have hby:(l1.aI.length+1) * 32<=140737488355328:=by have:=qm.out;omega
 have n2:¬L=w1.heap.size:=by omega
 have hBw:B<=w1.heap.size:=by omega
 clear h1 m1 HA;generalize l1.aI.flatMap lV=cells at *;have hwr:IntKind.i64.wrap (len:Int)=(len:Int):=by rw[IntKind.wrap_i64];omega
 go_wp2_with fail;go_region_law ((refine step_append_lies _ (by rfl) _ _ _ (by rfl) B 226 i0 _ 4 32 Tryz.underlying149 hi0 hz0 hz1 hz2 (by rfl) (by omega) (.slice aB l1.aI.length cB) l1.aI.length cells (by rfl) (HW.out _ 1) (Ad w1.heap.size 0) 1 1 [Im len,Im 0,Im 0,Im 0] (by rfl) (by rfl) (World.news_of_block (cs:=#[Im len,Im 0,Im 0,Im 0]) (t:=226) (fr:=(0,0)) (heap_alloc_new w1 _)) (by simp[Value.oneCell']) (by omega) hmx hby (by simp;omega) (w1.heap.size+1) (by simp) ?_;intro gg cap1 w3 hown1 hgrow hat hlt;have hu3:=(HP.out _ 1 _ _ _ hgrow hown1 hat).2.2.1;have hf3:=(HP.out _ 1 _ _ _ hgrow hown1 hat).2.2.2));all_goals
  have hm:=(HP.out _ 1 _ _ _ hgrow hown1 hat).1;have hv:=(HP.out _ 1 _ _ _ hgrow hown1 hat).2.1;clear hown1 hgrow hat hlt;go_wp2;go_end0;exact⟨rfl,_,_,hm,hv⟩
theorem bT(w:World)(n:Nat)(x:Addr)(u:Value):(w.drewN n).setCell x u=(w.setCell x u).drewN n:=rfl
attribute [local go_sem] bT
theorem bn.Vs(h:bn B w L s l vs vb vl){init:List Int}{x:Int}(hx:l.bH=init++[x]):
 ∃g cap,vl=.slice (some (Ad g 0)) (init.length+1) cap/\g<w.heap.size/\w.cell? (Ad g init.length)=some (Im x):=by
 have hrow:=h.bH;have hlen:l.bH.length=init.length+1:=by rw[hx];simp
 rcases hrow.2 with⟨h1,h2⟩|⟨g,cap,cur,h1,h2,h3⟩
 .omega
 .refine⟨g,cap,by rw[h1,hlen],(hrow.lt g (by rw[h1];rfl)).2,?_⟩;rw[h1]at hrow;rw[hrow.cellAt _ (by omega),hx];simp
theorem ah0(h:bn B w L s l vs vb vl)(hl:l.bH=[])(q a b c d dp t:Int):
 Calls prog 117 #[Pt L 0,.agg #[.int .u8 q,Im a,Im b,Im c,Im d,Im dp,Im t]] w fun e w'=>e=.returned (.tuple #[])/\
  bn B w' L s {l with bad:=true} vs vb vl/\bF L w vs vb vl w' vs vb vl:=by
 have HP:Hid (∀o,bn B ((w.setCell (Ad L 7) (.bool true)).alloc o) L s {l with bad:=true} vs vb vl/\bF L w vs vb vl ((w.setCell (Ad L 7) (.bool true)).alloc o) vs vb vl):=fun o=>
  ⟨h.Dx.alloc o,(bF.own L w vs vb vl 7 (.bool true)).trans (bF.grow L _ vs vb vl (World.grownBy_alloc _ o none))⟩
 obtain⟨a0,c0,rfl⟩:=wJ h.bH;have c4:=h.c4;have c7:=h.c7;have f7:=h.fr 7;have hL:=h.lt;have n1:¬L=w.heap.size:=by omega
 have hlen:l.bH.length=0:=by rw[hl];rfl
 clear h hl;generalize l.bH.length=n at *;subst hlen;go_enter func117,ntmps117;go_wp2;exact bodyPost_ret (v:=.tuple #[]) (by simp[results,Tryz.results117,go_sem]) rfl ⟨rfl,HP.out _⟩
theorem ah1(h:bn B w L s l vs vb vl)(hne:l.aI≠[])(hlb:l.aI.length<=900000)(hls:l.ay.length<=900000)(hll:l.bH.length<=900000)(init:List Int)(x:Int)(hx:l.bH=init++[x])(q a b c d dp t:Int):
 Calls prog 117 #[Pt L 0,.agg #[.int .u8 q,Im a,Im b,Im c,Im d,Im dp,Im t]] w fun e w'=>e=.returned (.tuple #[])/\
  ∃vs',bn B w' L s (fE l ⟨q,a,b,c,d,dp,x⟩) vs' vb vl/\bF L w vs vb vl w' vs' vb vl:=by
 obtain⟨g,cap,rfl,hg,cg⟩:=h.Vs hx;have hlen:l.bH.length=init.length+1:=by rw[hx];simp
 have HA:Hid (∀o k,Calls prog 118 #[Pt L 0,.agg #[.int .u8 q,Im a,Im b,Im c,Im d,Im dp,Im x]] ((w.alloc o).drewN k) fun e w'=>e=.returned (.tuple #[])/\
  ∃vs',bn B w' L s (fE l ⟨q,a,b,c,d,dp,x⟩) vs' vb (.slice (some (Ad g 0)) (init.length+1) cap)/\bF L w vs vb (.slice (some (Ad g 0)) (init.length+1) cap) w' vs' vb (.slice (some (Ad g 0)) (init.length+1) cap)):=fun o k=>by
  refine(Ei ((h.alloc o).drewN k) hne (by omega) (by omega) q a b c d dp x).mono ?_;rintro e w' ⟨h1,vs',h2,h3⟩;exact⟨h1,vs',h2,(bF.grow L w _ _ _ (w':=(w.alloc o).drewN k) ((World.grownBy_alloc w o none).trans ⟨rfl,rfl,rfl,Nat.le_refl _,fun _ _ _=>rfl⟩)).trans h3⟩
 have c4:=h.c4;have hL:=h.lt;have n1:¬L=w.heap.size:=by omega
 have n2:¬g=w.heap.size:=by omega
 have hi:init.length<=900000:=by omega
 clear h hx hlen hne;generalize init.length=n at *;have hne0:(((n:Int)+1)==0)=false:=by simp;omega
 have i1:(0:Int)<=(n:Int):=by omega
 go_enter func117,ntmps117;go_wp2_with fail;refine fC 13 (by kernel_rfl) (by kernel_rfl) ?_;simp only[List.take_succ_cons,List.take_zero,List.drop_succ_cons,List.drop_zero];repeat (go_big_quiet_step (fail))
 refine wpQuiet_nil ?_;intro _ hw';obtain⟨k3,hw''⟩:=hw';subst hw'';go_wp2_with fail;refine(HA.out _ k3).mono ?_;rintro e w1 ⟨rfl,vs',h1,h2⟩;go_wp2;go_end0;exact⟨rfl,vs',h1,h2⟩
end
section
variable {B:Nat}{w:World}{L:Nat}{s:ByteArray}{l:Ls}{vs vb vl:Value}
theorem afq(h:bn B w L s l vs vb vl)(hl:l.bH.length=8)(q a b c d dp t:Int):
 Calls prog 114 #[Pt L 0,.agg #[.int .u8 q,Im a,Im b,Im c,Im d,Im dp,Im t]] w fun e w'=>e=.returned (.tuple #[])/\
  bn B w' L s {l with bad:=true} vs vb vl/\bF L w vs vb vl w' vs vb vl:=by
 have HP:Hid (∀o,bn B ((w.setCell (Ad L 7) (.bool true)).alloc o) L s {l with bad:=true} vs vb vl/\bF L w vs vb vl ((w.setCell (Ad L 7) (.bool true)).alloc o) vs vb vl):=fun o=>
  ⟨h.Dx.alloc o,(bF.own L w vs vb vl 7 (.bool true)).trans (bF.grow L _ vs vb vl (World.grownBy_alloc _ o none))⟩
 obtain⟨a0,c0,rfl⟩:=wJ h.bH;have c4:=h.c4;have c7:=h.c7;have f7:=h.fr 7;have hL:=h.lt;have n1:¬L=w.heap.size:=by omega
 clear h;generalize l.bH.length=n at *;subst hl;go_enter func114,ntmps114;go_wp2;exact bodyPost_ret (v:=.tuple #[]) (by simp[results,Tryz.results114,go_sem]) rfl ⟨rfl,HP.out _⟩
theorem afr(h:bn B w L s l vs vb vl)(hne:l.aI≠[])(hlb:l.aI.length<=900000)(hls:l.ay.length<=900000)(hll:l.bH.length<8)(q a b c d dp t:Int):
 Calls prog 114 #[Pt L 0,.agg #[.int .u8 q,Im a,Im b,Im c,Im d,Im dp,Im t]] w fun e w'=>e=.returned (.tuple #[])/\
  ∃vs' bV dI,bn B w' L s (EO l ⟨q,a,b,c,d,dp,t⟩) vs' bV dI/\bF L w vs vb vl w' vs' bV dI:=by
 obtain⟨i0,hi0,hz0,hz1,hz2⟩:=info_parts Vb;obtain⟨aL,cL,rfl⟩:=wJ h.bH;have HA:Hid (∀o,Calls prog 113 #[Pt L 0,.agg #[.int .u8 q,Im a,Im b,Im c,Im d,Im l.bH.length,Im t]] (w.alloc o) fun e w'=>e=.returned (.tuple #[])/\
  ∃vs' bV,bn B w' L s (sD l ⟨q,a,b,c,d,l.bH.length,t⟩) vs' bV (.slice aL l.bH.length cL)/\bF L w vs vb (.slice aL l.bH.length cL) w' vs' bV (.slice aL l.bH.length cL)):=fun o=>by
  refine(Wy (h.alloc o) hne hlb hls q a b c d l.bH.length t).mono ?_;rintro e w' ⟨h1,vs',bV,h2,h3⟩;exact⟨h1,vs',bV,h2,(bF.grow L w _ _ _ (World.grownBy_alloc w o none)).trans h3⟩
 have hl2:(sD l ⟨q,a,b,c,d,l.bH.length,t⟩).ay.length=l.ay.length+1:=by
  show(l.ay++[_]).length=_;simp
 have hl3:(sD l ⟨q,a,b,c,d,l.bH.length,t⟩).bH=l.bH:=rfl;have HO:Hid (EO l ⟨q,a,b,c,d,dp,t⟩={sD l ⟨q,a,b,c,d,l.bH.length,t⟩with bH:=l.bH++[(l.ay.length:Int)]}):=rfl;have c4:=h.c4;have hL:=h.lt;have hBL:=h.bL;clear h hne hlb;generalize EO l ⟨q,a,b,c,d,dp,t⟩=l2 at *;generalize sD l ⟨q,a,b,c,d,l.bH.length,t⟩=l1 at *;have HL2:Hid (l1.ay.length=l.ay.length+1):=hl2;have pF:Hid (l1.bH=l.bH):=hl3;clear hl2 hl3;have n1:¬L=w.heap.size:=by omega
 have h8:((l.bH.length:Int)==8)=false:=by simp;omega
 go_enter func114,ntmps114;go_wp2_with fail;refine(HA.out _).mono ?_;rintro e w1 ⟨rfl,vs1,vb1,h1,m1⟩;obtain⟨aS,cS,hvs⟩:=wJ h1.ay;rw[HL2.out]at hvs;subst hvs;have HP:Hid (∀(o:Obj)(k:Nat)(w2:World)(g cap:Nat),((w1.alloc o).drewN k).grownBy w2 (Value.slice aL l.bH.length cL).ownBlock->
  w2.ownsRow B 3 1 (.slice (some (Ad g 0)) (l.bH.length+1) cap) (l.bH.length+1) (l.bH.map (Value.int .i64)++[Im l.ay.length])->
  ((Value.slice aL l.bH.length cL).ownBlock=some g\/g=w1.heap.size+1)->
  bn B (w2.setCell (Ad L 4) (.slice (some (Ad g 0)) (l.bH.length+1) cap)) L s l2 (.slice aS (l.ay.length+1) cS) vb1 (.slice (some (Ad g 0)) (l.bH.length+1) cap)/\
  bF L w vs vb (.slice aL l.bH.length cL) (w2.setCell (Ad L 4) (.slice (some (Ad g 0)) (l.bH.length+1) cap)) (.slice aS (l.ay.length+1) cS) vb1 (.slice (some (Ad g 0)) (l.bH.length+1) cap)/\
  w2.cell? (Ad L 4)=some (.slice aL l.bH.length cL)/\w2.frozen? (Ad L 4)=false):=by
  intro o k w2 g cap hg ho hat;have hW:=(h1.alloc o).drewN k;have hsz:((w1.alloc o).drewN k).heap.size=w1.heap.size+1:=by simp
  obtain⟨g1,g2,g3,g4⟩:=hW.VI hg (dI:=.slice (some (Ad g 0)) (l.bH.length+1) cap) (loops':=l.bH++[(l.ay.length:Int)]) (by
   have e1:(l.bH++[(l.ay.length:Int)]).length=l.bH.length+1:=by simp
   have e2:(l.bH++[(l.ay.length:Int)]).map (Value.int .i64)=l.bH.map (Value.int .i64)++[Im l.ay.length]:=by simp
   rw[e1,e2];exact ho) (fun g' hg'=>by
   have:g=g':=by simpa [Value.ownBlock]using hg'
   subst this;rcases hat with h5|h5
   .exact Or.inl h5
   .exact Or.inr (by rw[hsz];omega))
  rw[HO.out];exact⟨g1,m1.trans ((bF.grow L w1 _ _ _ (w':=(w1.alloc o).drewN k) ((World.grownBy_alloc w1 o none).trans ⟨rfl,rfl,rfl,Nat.le_refl _,fun _ _ _=>rfl⟩)).trans g2),g3,g4⟩
 have HW:Hid (∀(o:Obj)(k:Nat),((w1.alloc o).drewN k).ownsRow B 3 1 (.slice aL l.bH.length cL) l.bH.length (l.bH.map (Value.int .i64))):=fun o k=>by
  have:=((h1.alloc o).drewN k).bH;rw[pF.out]at this;exact this
 have d2:=h1.c2;have d4:=h1.c4;have hL1:=h1.lt;have hmx:l.bH.length+1<=maxLen:=by unfold maxLen;omega
 have hby:(l.bH.length+1) * 8<=140737488355328:=by omega
 have n2:¬L=w1.heap.size:=by omega
 have hBw:B<=w1.heap.size:=by omega
 have hwr:IntKind.i64.wrap (l.ay.length:Int)=(l.ay.length:Int):=by rw[IntKind.wrap_i64];omega
 clear h1 m1 HA c4;generalize l.bH.map (Value.int .i64)=cells at *;go_wp2_with fail;go_region_law ((refine step_append_lies _ (by rfl) _ _ _ (by rfl) B 3 i0 _ 1 8 Tryz.underlying91 hi0 hz0 hz1 hz2 (by rfl) (by omega) (.slice aL l.bH.length cL) l.bH.length cells (by rfl) (HW.out _ 1) (Ad w1.heap.size 0) 1 1 [Im l.ay.length] (by rfl) (by rfl) (World.news_of_block (cs:=#[Im l.ay.length]) (t:=3) (fr:=(0,0)) (heap_alloc_new w1 _)) (by simp[Value.oneCell']) (by omega) hmx hby (by simp;omega) (w1.heap.size+1) (by simp) ?_;intro gg cap1 w3 hown1 hgrow hat hlt;have hu3:=(HP.out _ 1 _ _ _ hgrow hown1 hat).2.2.1;have hf3:=(HP.out _ 1 _ _ _ hgrow hown1 hat).2.2.2));all_goals
  have hm:=(HP.out _ 1 _ _ _ hgrow hown1 hat).1;have hv:=(HP.out _ 1 _ _ _ hgrow hown1 hat).2.1;clear hown1 hgrow hat hlt;go_wp2;go_end0;exact⟨rfl,_,_,_,hm,hv⟩
end
end
end Go.Proofs.YthllhabjfchgiaaGreatDoor
