import Derived.Test.YthllhabjfchgiaaGreatDoorHz44
set_option maxRecDepth 100000
set_option maxHeartbeats 8000000
namespace Go.Proofs.YthllhabjfchgiaaGreatDoor
open _root_.Go.Proofs.Tryz
section
open Go.RowKit Hx
attribute [local go_sem ↓] Go.wp_at_zero Go.wp_at_succ
attribute [local go_sem] bT
section
variable {w w' w2 w1:World}{tag tag':Nat->Nat}{L R cap C:Nat}{pk:Nat->Nat}{cv u v:Value}{ρ:bW}{s:aO}{bs:List UInt8}{o:Out}
def mG(wy:World)(tag:Nat->Nat)(L R:Nat)(pk:Nat->Nat)(cv:Value)(cap:Nat)(wr:World)(s':aO):Prop:=∃tag' ρ',bg wr tag' L R pk cv cap ρ' s'/\Lf wy tag wr tag'
theorem mG.act(h:mG w tag L R pk cv cap w1 s)(hs:Small s){w2:World}(hg:w1.grownBy w2 none)(id seq:Int):Calls prog 75 #[Pt L 0,.agg #[Im id,Im seq]] w2 fun e w'=>e=.returned (.tuple #[])/\mG w tag L R pk cv cap w' (s.act id seq):=by
 obtain⟨t1,ρ1,h1,f1⟩:=h;refine(ZA (h1.grow hg) hs id seq).mono ?_;rintro e w' ⟨e1,t2,ρ2,h2,f2⟩;exact⟨e1,t2,ρ2,h2,(f1.trans (Lf.grown hg)).trans f2⟩
theorem mG.fA(h:mG w tag L R pk cv cap w1 s)(hs:Small s):Calls prog 76 #[Pt L 16] w1 fun e w'=>e=.returned (.bool s.fA.2)/\mG w tag L R pk cv cap w' s.fA.1:=by
 obtain⟨t1,ρ1,h1,f1⟩:=h;refine(aiP h1 hs.quiet).mono ?_;rintro e w' ⟨e1,h2,f2⟩;exact⟨e1,t1,ρ1,h2,f1.trans f2⟩
theorem mG.mD(h:mG w tag L R pk cv cap w1 s)(hs:Small s):Calls prog 77 #[Pt L 0] w1 fun e w'=>e=.returned (.tuple #[])/\mG w tag L R pk cv cap w' s.mD:=by
 obtain⟨t1,ρ1,h1,f1⟩:=h;refine(agS h1 hs).mono ?_;rintro e w' ⟨e1,t2,ρ2,h2,f2⟩;exact⟨e1,t2,ρ2,h2,f1.trans f2⟩
theorem ZK(s:aO)(l:List (Int×Int))(k:Nat)(a:Int×Int)(h:l[k]? =some a):s.aY (l.take (k+1))=(s.aY (l.take k)).act a.1 a.2:=by
 have h1:l.take (k+1)=l.take k++[a]:=by rw[List.take_add_one,h];rfl
 rw[h1];unfold Hx.aO.aY;rw[List.foldl_append]
 rfl
theorem Small.TF(hs:Small s):Small s.fA.1:=by
 have hq:=hs.quiet;unfold Hx.aO.fA;split
 .exact⟨hs.aG,hs.aP,hs.aJ,hs.aK,hs.all,hs.acc,hs.dN,⟨by show -1<=s.quiet+1;omega,by show s.quiet+1<=1000;omega⟩,hs.bQ,hs.dA⟩
 .exact⟨hs.aG,hs.aP,hs.aJ,hs.aK,hs.all,hs.acc,hs.dN,⟨by show -1<=(0:Int);omega,by show(0:Int)<=1000;omega⟩,hs.bQ,hs.dA⟩
theorem ael{g a wd c:Nat}(h:bg w tag L R pk (Pt C 0) cap ρ s)(hk:lF s g a wd c)(hg:g<=9000000000)(ha:a<=10000000000000)(hw:wd<=900000000000000)(hc:c<=1000000000000)(hh:zB w tag C bs):
 Calls prog 38 #[Pt L 0] w fun e w'=>e=.returned (.tuple #[])/\mG w tag L R pk (Pt C 0) cap w' (s.tick bs):=by
 have hs:Small s:=Me hk.sn hk.bd (by omega) (by omega) (by omega) (by omega);obtain⟨o,ho⟩:∃o,s.out bs=o:=⟨_,rfl⟩;obtain⟨nd,hnd⟩:∃nd,(eF bs).need=nd:=⟨_,rfl⟩;obtain⟨st,hst⟩:∃x,o.status=x:=⟨_,rfl⟩;obtain⟨z0,hz0⟩:∃x,o.bG.getD 0 0=x:=⟨_,rfl⟩;obtain⟨z1,hz1⟩:∃x,o.bG.getD 1 0=x:=⟨_,rfl⟩;obtain⟨z2,hz2⟩:∃x,o.bG.getD 2 0=x:=⟨_,rfl⟩;obtain⟨z3,hz3⟩:∃x,o.bG.getD 3 0=x:=⟨_,rfl⟩;obtain⟨z4,OM⟩:∃x,o.bG.getD 4 0=x:=⟨_,rfl⟩;obtain⟨z5,OO⟩:∃x,o.bG.getD 5 0=x:=⟨_,rfl⟩;obtain⟨z6,OQ⟩:∃x,o.bG.getD 6 0=x:=⟨_,rfl⟩;obtain⟨z7,OT⟩:∃x,o.bG.getD 7 0=x:=⟨_,rfl⟩;have hL:=h.nH (b:=L) (by rw[h.fO];decide);have nL:w.heap.size≠L:=by omega
 have c0:w.cell? (Ad L 0)=some (Pt C 0):=h.dL rfl;have c1:w.cell? (Ad L 1)=some (Im s.r0):=h.dL rfl;have c2:w.cell? (Ad L 2)=some (Im s.r1):=h.dL rfl;have c3:w.cell? (Ad L 3)=some (Im s.r2):=h.dL rfl;have c4:w.cell? (Ad L 4)=some (Im s.r3):=h.dL rfl;have c5:w.cell? (Ad L 5)=some (Im s.r4):=h.dL rfl;have c6:w.cell? (Ad L 6)=some (Im s.r5):=h.dL rfl;have c7:w.cell? (Ad L 7)=some (Im s.r6):=h.dL rfl;have c8:w.cell? (Ad L 8)=some (Im s.r7):=h.dL rfl;have RQ:Hid (∀y,w.grownBy y none->Calls prog 73 #[Pt L 0] y fun e w'=>∃ra rn rc fa fn fc aa an ac,e=.returned (.agg #[.slice ra rn rc,.slice fa fn fc,.slice aa an ac])/\(w'.heap.size≠L/\L<w'.heap.size)/\(∀j:Nat,w'.cell? (Ad L j)=w.cell? (Ad L j))/\(∀b,b<y.heap.size->b<w'.heap.size)/\(∀b j,b<y.heap.size->w'.cell? (Ad b j)=y.cell? (Ad b j))/\(∀b j,b<y.heap.size->w'.frozen? (Ad b j)=y.frozen? (Ad b j))/\w.grownBy w' none/\y.grownBy w' none/\Jw s ra fa aa rn fn an w'):=fun y hy=>by
  refine(ajl h hs hk.ir hy).mono ?_;rintro e w' ⟨ra,rn,rc,fa,fn,fc,aa,an,ac,e1,e2,e3⟩;have hw:=hy.trans e2;have n3:=hw.size;exact⟨ra,rn,rc,fa,fn,fc,aa,an,ac,e1,⟨by omega,by omega⟩,fun j=>World.cell?_of_block (hw.block L hL (by simp)),fun b hb=>Nat.lt_of_lt_of_le hb e2.size,fun b j hb=>World.cell?_of_block (e2.block b hb (by simp)),fun b j hb=>World.frozen?_of_block (e2.block b hb (by simp)),hw,e2,e3⟩
 have yg:Hid (∀y,w.grownBy y none->Calls prog 17 #[Pt C 0] y fun e w'=>e=.returned (Im nd)/\w'=y):=fun y hy=>by
  rw[<-hnd];exact ER (hh.aN (Lf.grown hy)).need
 have HRn:Hid (∀y yv ar nr cr af nf cf aa na ca,w.grownBy yv none->Jw s ar af aa nr nf na yv->yv.grownBy y none->Calls prog 16 #[Pt C 0,.agg #[.slice ar nr cr,.slice af nf cf,.slice aa na ca],.agg #[Im s.r0,Im s.r1,Im s.r2,Im s.r3,Im s.r4,Im s.r5,Im s.r6,Im s.r7],Im nd] y fun e w'=>∃va vn vc,e=.returned (.agg #[.int .u8 st,.slice va vn vc,Im z0,Im z1,Im z2,Im z3,Im z4,Im z5,Im z6,Im z7])/\(w'.heap.size≠L/\L<w'.heap.size)/\(∀j:Nat,w'.cell? (Ad L j)=w.cell? (Ad L j))/\(∀b,b<y.heap.size->b<w'.heap.size)/\(∀b j,b<y.heap.size->w'.cell? (Ad b j)=y.cell? (Ad b j))/\(∀b j,b<y.heap.size->w'.frozen? (Ad b j)=y.frozen? (Ad b j))/\w.grownBy w' none/\Jr o y (.slice va vn vc) w'):=fun y yv ar nr cr af nf cf aa na ca h1 h2 h3=>by
  have key:=ag5 (cr:=cr) (cf:=cf) (ca:=ca) hh hk.ir h1 h2 h3;rw[ho,hnd]at key;refine key.mono ?_;rintro e w' ⟨va,vn,vc,e1,e2⟩;have hw:=(h1.trans h3).trans e2.2;have n3:=hw.size;refine⟨va,vn,vc,?_,⟨by omega,by omega⟩,fun j=>World.cell?_of_block (hw.block L hL (by simp)),fun b hb=>Nat.lt_of_lt_of_le hb e2.2.size,fun b j hb=>World.cell?_of_block (e2.2.block b hb (by simp)),fun b j hb=>World.frozen?_of_block (e2.2.block b hb (by simp)),hw,e2⟩;rw[e1,IE,hst,hz0,hz1,hz2,hz3,OM,OO,OQ,OT]
 have HK:=bC (And.intro h (And.intro hk hh));have HO:=bC ho;have BP:=bC hs;have HZ:Hid (o.status=st/\o.bG.getD 0 0=z0/\o.bG.getD 1 0=z1/\o.bG.getD 2 0=z2/\o.bG.getD 3 0=z3/\o.bG.getD 4 0=z4/\o.bG.getD 5 0=z5/\o.bG.getD 6 0=z6/\o.bG.getD 7 0=z7):=⟨hst,hz0,hz1,hz2,hz3,OM,OO,OQ,OT⟩;clear h hk hh hs ho hst hz0 hz1 hz2 hz3 OM OO OQ OT hnd;generalize s.r0=x0 at *;generalize s.r1=x1 at *;generalize s.r2=x2 at *;generalize s.r3=x3 at *;generalize s.r4=x4 at *;generalize s.r5=x5 at *;generalize s.r6=x6 at *;generalize s.r7=x7 at *;go_enter func38,ntmps38;go_upto_region 0 with fail;go_cut [2] (fun v2 wx=>Hid (∃(b vn vc:Nat)(va:Option Addr),v2=Pt b 0/\Ns w o b (.slice va vn vc) wx))
 case first=>
  go_region_held3 (fun w'=>∀j:Nat,w'.cell? (Ad L j)=w.cell? (Ad L j)) (((repeat (first|(with_reducible assumption)|(with_reducible exact Dl _ _)|(with_reducible refine Hu ?_)|(with_reducible refine Hw ?_)|(with_reducible refine Dk ?_ ?_)|(with_reducible refine EL ?_ ?_)))<;>(first|assumption|omega)))
   ((first
     |(go_at_call 73;refine(RQ.out _ (by repeat (first|exact World.grownBy.refl _ _|assumption|refine fG ?_|refine fH ?_|refine gB ?_))).mono ?_;rintro e wf ⟨ra,rn,rc,fa,fn,fc,aa,an,ac,rfl,⟨f1,f9⟩,f2,f3,f4,f5,f6,f7,f8⟩)
     |(go_at_call 17;refine(yg.out _ (by repeat (first|exact World.grownBy.refl _ _|assumption|refine fG ?_|refine fH ?_|refine gB ?_))).mono ?_;rintro e wn ⟨rfl,hwn⟩;have acS:=hwn.symm;subst acS;clear hwn)
     |(go_at_call 16;refine(HRn.out _ _ _ _ _ _ _ _ _ _ _ (by assumption) (by assumption) (by repeat (first|exact World.grownBy.refl _ _|assumption|refine fG ?_|refine fH ?_|refine gB ?_))).mono ?_;rintro e wg ⟨va,vn,vc,rfl,⟨k1,k8⟩,k2,k3,k4,k5,k6,k7⟩)))
  all_goals
   obtain⟨rfl,rfl,rfl,rfl,rfl,rfl,rfl,rfl,rfl⟩:=HZ.out;go_wp2_with fail;go_meet
  .exact⟨_,_,_,_,rfl,agD (by repeat (first|exact World.grownBy.refl _ _|assumption|refine fG ?_|refine fH ?_|refine gB ?_)) k7⟩
  .exact⟨_,_,_,_,rfl,Qg (by repeat (first|exact World.grownBy.refl _ _|assumption|refine fG ?_|refine fH ?_|refine gB ?_)) (by have:=f6.size;omega) (by exact heap_alloc_new wf _) k7⟩
  .exact⟨_,_,_,_,rfl,Qg (by repeat (first|exact World.grownBy.refl _ _|assumption|refine fG ?_|refine fH ?_|refine gB ?_)) (by have:=f6.size;omega) (by exact heap_alloc_new wf _) k7⟩
  .exact⟨_,_,_,_,rfl,Qg (by repeat (first|exact World.grownBy.refl _ _|assumption|refine fG ?_|refine fH ?_|refine gB ?_)) (Nat.le_refl _) ((f7.block _ (by simp) (by simp)).trans (by exact heap_alloc_new w _)) k7⟩
 case rest=>
  obtain⟨b,vn,vc,va,rfl,hR⟩:=hcut.out;obtain⟨ez,JO,JQ,JR,JU,JV,JW,JX,JY⟩:=HZ.out;have htold:s.told o=s.bG z0 z1 z2 z3 z4 z5 z6 z7:=by unfold Hx.aO.told;rw[JO,JQ,JR,JU,JV,JW,JX,JY]
  clear hcut RQ yg HRn c0 c1 c2 c3 c4 c5 c6 c7 c8;obtain⟨hk,hkk,hh⟩:=HK.out;obtain⟨hb,hbk,hrow,gx⟩:=hR;unfold IE at hbk;rw[ez,JO,JQ,JR,JU,JV,JW,JX,JY]at hbk;obtain⟨va',vc',hve⟩:=wJ hrow;cases hve;have h2:=hk.grow gx;have hbl:b<wc.heap.size:=dS hbk;have tb:tag b=0:=hk.rows.new b hb;have nbL:b≠L:=by omega
  obtain⟨oa,ob⟩:=WC (QY hkk.ir hk.ok BP.out) bs hh.tk hkk.ir.bG (eF bs).need;have hoa:o.aY.length<=256:=by rw[<-HO.out];exact oa
  have zA:=(hkk.kW hk.ok BP.out hh.tk).1;have hS1:Small (s.kW bs):=Me zA.sn zA.bd (by omega) (by omega) (by omega) (by omega);have q0:wc.cell? (Ad b 0)=some (.int .u8 st):=aA hbk;by_cases hst:st=0
  .have d0:(st==0)=true:=by rw[hst];rfl
   have Hf:s.kW bs=(s.told o).aY o.aY:=by
    unfold Hx.aO.kW;rw[HO.out,ez,if_pos hst]
   obtain⟨hW,fW⟩:=h2.agc z0 z1 z2 z3 z4 z5 z6 z7;have c1:wc.cell? (Ad L 1)=some (Im s.r0):=h2.dL rfl;have c2:wc.cell? (Ad L 2)=some (Im s.r1):=h2.dL rfl;have c3:wc.cell? (Ad L 3)=some (Im s.r2):=h2.dL rfl;have c4:wc.cell? (Ad L 4)=some (Im s.r3):=h2.dL rfl;have c5:wc.cell? (Ad L 5)=some (Im s.r4):=h2.dL rfl;have c6:wc.cell? (Ad L 6)=some (Im s.r5):=h2.dL rfl;have c7:wc.cell? (Ad L 7)=some (Im s.r6):=h2.dL rfl;have c8:wc.cell? (Ad L 8)=some (Im s.r7):=h2.dL rfl;have fz:=h2.fz L h2.fO;obtain⟨W1,hW1⟩:∃W1,((((((((wc.setCell (Ad L 1) (Im z0)).setCell (Ad L 2) (Im z1)).setCell (Ad L 3) (Im z2)).setCell (Ad L 4) (Im z3)).setCell (Ad L 5) (Im z4)).setCell (Ad L 6) (Im z5)).setCell (Ad L 7) (Im z6)).setCell (Ad L 8) (Im z7))=W1:=⟨_,rfl⟩;rw[hW1]at hW fW;have q1:wc.cell? (Ad b 1)=some (.slice va o.aY.length vc):=aA hbk;have q2:wc.cell? (Ad b 2)=some (Im z0):=aA hbk;have q3:wc.cell? (Ad b 3)=some (Im z1):=aA hbk;have q4:wc.cell? (Ad b 4)=some (Im z2):=aA hbk;have q5:wc.cell? (Ad b 5)=some (Im z3):=aA hbk;have q6:wc.cell? (Ad b 6)=some (Im z4):=aA hbk;have q7:wc.cell? (Ad b 7)=some (Im z5):=aA hbk;have q8:wc.cell? (Ad b 8)=some (Im z6):=aA hbk;have q9:wc.cell? (Ad b 9)=some (Im z7):=aA hbk;have p1:W1.cell? (Ad b 1)=some (.slice va o.aY.length vc):=(World.cell?_of_block (fW.aN b hbl tb)).trans q1;have Jj:Hid (∀k,Small ((s.told o).aY (o.aY.take k))):=fun k=>by
    have hn:=hkk.sn.bG z0 z1 z2 z3 z4 z5 z6 z7;have hbd:=(hkk.bd.told o).aY (o.aY.take k) (by rw[htold];exact hn);rw[htold]at hbd⊢;have hlk:(o.aY.take k).length<=256:=by rw[List.length_take];omega
    exact Me (Sn.aY (o.aY.take k) hn).1 hbd (by omega) (by omega) (by omega) (by omega)
   have RH:Hid (∀(k:Nat)(x:Int×Int),o.aY[k]? =some x->∃ga,va=some (Ad ga 0)/\∀wr t' s',bg wr t' L R pk (Pt C 0) cap s' (s.told o)\/True->Lf W1 tag wr t'->wr.cell? (Ad ga (k * 2))=some (Im x.1)/\wr.cell? (Ad ga (k * 2+1))=some (Im x.2)):=fun k x hx=>by
    obtain⟨e1,e2⟩:=Sr o.aY k x hx;obtain⟨ga,ha1,ha2,ha3,Uz⟩:=yT hrow e1;refine⟨ga,ha1,fun wr t' s' _ f=>?_⟩;have tg:tag ga=0:=hk.rows.new ga ha2;have hs1:=fW.size;have hbk2:wr.heap[ga]? =wc.heap[ga]? :=(f.aN ga (by omega) tg).trans (fW.aN ga ha3 tg);exact⟨(World.cell?_of_block hbk2).trans (Uz _ _ e1),(World.cell?_of_block hbk2).trans (Uz _ _ e2)⟩
   have H0:Hid (mG W1 tag L R pk (Pt C 0) cap W1 ((s.told o).aY (o.aY.take 0))):=by
    rw[htold];exact⟨tag,ρ,hW,Lf.refl _ _⟩
   have Jd:Hid (∀wr s',mG W1 tag L R pk (Pt C 0) cap wr s'->mG w tag L R pk (Pt C 0) cap wr s'):=fun wr s' ⟨t',ρ',z1,z2⟩=>⟨t',ρ',z1,((Lf.grown gx).trans fW).trans z2⟩;clear ez JO JQ JR JU JV JW JX JY htold HZ;go_wp2_with fail;go_loopg [32] (o.aY.length+1) (fun gg i wr=>Hid (∃k:Nat,k+gg=o.aY.length+1/\k<=o.aY.length/\i=Im k/\mG W1 tag L R pk (Pt C 0) cap wr ((s.told o).aY (o.aY.take k))))
   case atStart=>exact⟨0,by omega,Nat.zero_le _,rfl,H0.out⟩
   case round=>
    obtain⟨k,hk1,hk2,rfl,hA⟩:=hrel.out;clear hrel H0;by_cases hlt:k<o.aY.length
    .have d1:decide ((k:Int)<(o.aY.length:Int))=true:=decide_eq_true (by omega);have i0:(0:Int)<=(k:Int):=by omega
     have i1:(k:Int)<(o.aY.length:Int):=by omega
     obtain⟨g',hg'⟩:∃g',gk=g'+1:=⟨gk-1,by omega⟩;have hget:o.aY[k]? =some o.aY[k]:=List.getElem?_eq_getElem hlt;obtain⟨ga,rfl,hcell⟩:=RH.out k _ hget;obtain⟨t',ρ',z1,z2⟩:=id hA;obtain⟨m1,m2⟩:=hcell wr t' ρ' (Or.inr trivial) z2;have YQ:Hid (∀y,wr.grownBy y none->Calls prog 75 #[Pt L 0,.agg #[Im o.aY[k].1,Im o.aY[k].2]] y fun e w'=>e=.returned (.tuple #[])/\Hid (mG W1 tag L R pk (Pt C 0) cap w' ((s.told o).aY (o.aY.take (k+1))))):=fun y hy=>by
      rw[ZK _ _ k _ hget];exact hA.act (Jj.out k) hy _ _
     clear hA z1 z2 hcell hget;generalize o.aY[k]=x at *;obtain⟨x1,x2⟩:=x;go_wp2_with (go_at_call 75;refine(YQ.out _ (by repeat (first|exact World.grownBy.refl _ _|assumption|refine fG ?_|refine fH ?_|refine gB ?_))).mono ?_;rintro e w5 ⟨rfl,HN⟩);go_roundg g'
     case measure=>omega
     case rel=>exact⟨k+1,by omega,by omega,by go_num,HN.out⟩
    .have d1:decide ((k:Int)<(o.aY.length:Int))=false:=decide_eq_false (by omega);have hke:k=o.aY.length:=by omega
     subst hke;have hA:mG w tag L R pk (Pt C 0) cap wr (s.kW bs):=by
      have:=Jd.out _ _ hA;rw[List.take_length]at this;rw[Hf];exact this
     have FN:Hid (Calls prog 76 #[Pt L 16] wr fun e w'=>e=.returned (.bool (s.kW bs).fA.2)/\Hid (mG w tag L R pk (Pt C 0) cap w' (s.kW bs).fA.1)):=mG.fA hA hS1;have HRs:Hid (∀y,mG w tag L R pk (Pt C 0) cap y (s.kW bs).fA.1->Calls prog 77 #[Pt L 0] y fun e w'=>e=.returned (.tuple #[])/\Hid (mG w tag L R pk (Pt C 0) cap w' (s.kW bs).fA.1.mD)):=fun y h=>h.mD hS1.TF;have BR:Hid (s.tick bs=if (s.kW bs).fA.2 then (s.kW bs).fA.1.mD else (s.kW bs).fA.1):=rfl;clear hk hkk hh hbk hrow gx h2 oa ob zA hS1 Hf HK HO BP hA Jj RH hW fW p1 tb;generalize (s.kW bs).fA=D at *;obtain⟨s2,db⟩:=D;go_wp2_with fail;refine FN.out.mono ?_;rintro e w5 ⟨rfl,FI⟩;clear FN;cases db
     .clear HRs;go_wp2_with fail;go_end0;exact⟨rfl,by rw[BR.out];exact FI.out⟩
     .have F7:=bC (HRs.out _ FI.out);clear HRs;go_wp2_with fail;refine F7.out.mono ?_;rintro e w6 ⟨rfl,MO⟩;clear F7;go_wp2_with fail;go_end0;exact⟨rfl,by rw[BR.out];exact MO.out⟩
  .have d0:(st==0)=false:=by simpa using hst
   have Hf:s.kW bs=s:=by
    unfold Hx.aO.kW;rw[HO.out,ez,if_neg hst]
   have HA:Hid (mG w tag L R pk (Pt C 0) cap wc (s.kW bs)):=by rw[Hf];exact⟨tag,ρ,h2,Lf.grown gx⟩
   have FN:Hid (Calls prog 76 #[Pt L 16] wc fun e w'=>e=.returned (.bool (s.kW bs).fA.2)/\Hid (mG w tag L R pk (Pt C 0) cap w' (s.kW bs).fA.1)):=mG.fA HA.out hS1;have HRs:Hid (∀y,mG w tag L R pk (Pt C 0) cap y (s.kW bs).fA.1->Calls prog 77 #[Pt L 0] y fun e w'=>e=.returned (.tuple #[])/\Hid (mG w tag L R pk (Pt C 0) cap w' (s.kW bs).fA.1.mD)):=fun y h=>h.mD hS1.TF;have BR:Hid (s.tick bs=if (s.kW bs).fA.2 then (s.kW bs).fA.1.mD else (s.kW bs).fA.1):=rfl;clear hk hkk hh hbk hrow gx h2 oa ob zA hS1 Hf HK HO BP HA ez JO JQ JR JU JV JW JX JY htold HZ;generalize (s.kW bs).fA=D at *;obtain⟨s2,db⟩:=D;go_wp2_with fail;refine FN.out.mono ?_;rintro e w5 ⟨rfl,FI⟩;clear FN;cases db
   .clear HRs;go_wp2_with fail;go_end0;exact⟨rfl,by rw[BR.out];exact FI.out⟩
   .have F7:=bC (HRs.out _ FI.out);clear HRs;go_wp2_with fail;refine F7.out.mono ?_;rintro e w6 ⟨rfl,MO⟩;clear F7;go_wp2_with fail;go_end0;exact⟨rfl,by rw[BR.out];exact MO.out⟩
end
section
variable {w w' w2 w1:World}{tag:Nat->Nat}{L R cap:Nat}{pk:Nat->Nat}{cv u v:Value}{ρ:bW}{s:aO}
def Sl(s:aO)(y:World)(u1 u2 u3:Value)(w':World):Prop:=w'.ownsRow y.heap.size 74 5 u1 s.ah.length (seenCells s.ah s.ah.length)/\w'.ownsRow y.heap.size 72 3 u2 s.aG.length (kX s.all s.aG)/\w'.ownsRow y.heap.size 72 3 u3 s.aJ.length (kX s.all s.aJ)/\y.grownBy w' none
def Am(s:aO)(u1 u2 u3 u4 u5 u6:Value):Array Value:=#[Im (s.acc:Int),Im (s.bQ:Int),Im (s.dA:Int),Im (s.dN:Int),u1,u2,u3,u4,u5,u6,Im s.r0,Im s.r1,Im s.r2,Im s.r3,Im s.r4,Im s.r5,Im s.r6,Im s.r7]
def Gl(W:World)(s:aO)(u1 u2 u3:Value)(b:Nat)(u4:Value)(wx:World):Prop:=W.heap.size<=b/\wx.heap[b]? =some (.cells (Am s u1 u2 u3 u4 (Nl) (Nl)) 93)/\wx.ownsRow W.heap.size 72 3 u4 s.aP.length (kX s.all s.aP)/\u4.ownBlock≠some b/\W.grownBy wx none
theorem Yu{l:List Nat}{y:World}{ua:Option Addr}{un uc:Nat}(h:wX s l y (.slice ua un uc) w2):un=l.length:=by
 obtain⟨⟨_,_,e⟩,_,_⟩:=h;exact(Value.slice.inj e).2.1
theorem abY(w:World)(a:Addr)(v:Value)(o:Obj):((w.setCell a v).alloc o).heap[w.heap.size]? =some o:=by
 have h:=heap_alloc_new (w.setCell a v) o;have e:(w.setCell a v).heap.size=w.heap.size:=by simp
 rw[e]at h;exact h
structure Ju(s:aO)(w:World)(u1 u2 u3 u4 u5 u6:Value)(w':World):Prop where
 ah:w'.ownsRow w.heap.size 74 5 u1 s.ah.length (seenCells s.ah s.ah.length)
 aG:w'.ownsRow w.heap.size 72 3 u2 s.aG.length (kX s.all s.aG)
 aJ:w'.ownsRow w.heap.size 72 3 u3 s.aJ.length (kX s.all s.aJ)
 aP:w'.ownsRow w.heap.size 72 3 u4 s.aP.length (kX s.all s.aP)
 aT:w'.ownsRow w.heap.size 3 1 u5 s.ah.length (ints (s.ah.map fun r=>r.aT.length))
 aX:w'.ownsRow w.heap.size 3 1 u6 s.ah.length (ints (s.ah.map fun r=>r.aX.length))
 grown:w.grownBy w' none
structure zq(wc:World)(s:aO)(b:Nat)(u1 u2 u3 u4:Value)(sa aa:Option Addr)(sc ac k:Nat)(wr:World):Prop where
 aW:wr.heap[b]? =some (.cells (Am s u1 u2 u3 u4 (.slice sa k sc) (.slice aa k ac)) 93)
 aT:wr.ownsRow wc.heap.size 3 1 (.slice sa k sc) k (ints ((s.ah.take k).map fun r=>r.aT.length))
 aX:wr.ownsRow wc.heap.size 3 1 (.slice aa k ac) k (ints ((s.ah.take k).map fun r=>r.aX.length))
 apart:(Value.slice sa k sc).ownBlock=none\/(Value.slice sa k sc).ownBlock≠(Value.slice aa k ac).ownBlock
 grown:wc.grownBy wr (some b)
theorem Ve(l:List Lr)(f:Lr->Nat)(k:Nat)(r:Lr)(h:l[k]? =some r):ints ((l.take (k+1)).map f)=ints ((l.take k).map f)++[Im (f r:Int)]:=by
 have h1:l.take (k+1)=l.take k++[r]:=by rw[List.take_add_one,h];rfl
 rw[h1];simp[ints]
theorem zq.seg{wc wr y w3:World}{b k sc ac g:Nat}{sa aa:Option Addr}{u1 u2 u3 u4:Value}(h:zq wc s b u1 u2 u3 u4 sa aa sc ac k wr)(hb:b<wc.heap.size)(hy:wr.grownBy y none)(hg:y.grownBy w3 (Value.slice sa k sc).ownBlock)(hat:(Value.slice sa k sc).ownBlock=some g\/y.heap.size<=g):
 w3.heap[b]? =some (.cells (Am s u1 u2 u3 u4 (.slice sa k sc) (.slice aa k ac)) 93)/\w3.ownsRow wc.heap.size 3 1 (.slice aa k ac) k (ints ((s.ah.take k).map fun r=>r.aX.length))/\(Value.slice aa k ac).ownBlock≠some g/\wc.grownBy w3 (some b):=by
 have hs:=h.grown.size;have hs2:=hy.size;have na:(Value.slice aa k ac).ownBlock≠some g:=fun e=>by
  rcases hat with e2|e2
  .rcases h.apart with e3|e3
   .rw[e2]at e3;cases e3
   .exact e3 (e2.trans e.symm)
  .have:=(h.aX.lt g e).2;omega
 refine⟨?_,(h.aX.kept hy (by cases (Value.slice aa k ac).ownBlock<;>simp)).kept hg ?_,na,(h.grown.andThen hy fun j hj=>by cases hj).andThen hg fun j hj=>Or.inl (h.aT.lt j hj).1⟩
 .rw[hg.block b (by omega) (fun e=>by have:=(h.aT.lt b e.symm).1;omega),hy.block b (by omega) (by simp)];exact h.aW
 .rcases h.apart with e3|e3
  .cases hc:(Value.slice aa k ac).ownBlock with
   |none=>exact Or.inl rfl
   |some x=>right;rw[e3];simp
  .cases hc:(Value.slice aa k ac).ownBlock with
   |none=>exact Or.inl rfl
   |some x=>right;intro e;exact e3 (e.symm.trans hc.symm)
theorem zq.next{wc y w3 w5:World}{b k ac g c g2 c2:Nat}{sa aa:Option Addr}{sc:Nat}{u1 u2 u3 u4:Value}{r:Lr}(hr:s.ah[k]? =some r)(hb:b<wc.heap.size)(h1:w3.heap[b]? =some (.cells (Am s u1 u2 u3 u4 (.slice sa k sc) (.slice aa k ac)) 93))
 (hseg:w3.ownsRow wc.heap.size 3 1 (.slice (some (Ad g 0)) (k+1) c) (k+1) (ints ((s.ah.take k).map fun r=>r.aT.length)++[Im (r.aT.length:Int)]))(hack:w3.ownsRow wc.heap.size 3 1 (.slice aa k ac) k (ints ((s.ah.take k).map fun r=>r.aX.length)))(hne:(Value.slice aa k ac).ownBlock≠some g)(hgr:wc.grownBy w3 (some b))
 (hy:(w3.setCell (Ad b 8) (.slice (some (Ad g 0)) (k+1) c)).grownBy y none)(hg:y.grownBy w5 (Value.slice aa k ac).ownBlock)(hat:(Value.slice aa k ac).ownBlock=some g2\/y.heap.size<=g2)(how:w5.ownsRow wc.heap.size 3 1 (.slice (some (Ad g2 0)) (k+1) c2) (k+1) (ints ((s.ah.take k).map fun r=>r.aX.length)++[Im (r.aX.length:Int)])):
 w5.cell? (Ad b 9)=some (.slice aa k ac)/\(∀j,w5.frozen? (Ad b j)=false)/\zq wc s b u1 u2 u3 u4 (some (Ad g 0)) (some (Ad g2 0)) c c2 (k+1) (w5.setCell (Ad b 9) (.slice (some (Ad g2 0)) (k+1) c2)):=by
 have e1:(w3.setCell (Ad b 8) (.slice (some (Ad g 0)) (k+1) c)).heap[b]? =some (.cells (Am s u1 u2 u3 u4 (.slice (some (Ad g 0)) (k+1) c) (.slice aa k ac)) 93):=heap_setCell_same _ _ _ _ _ _ h1;have g1:=dV w3 b 8 (.slice (some (Ad g 0)) (k+1) c);have s1:=hgr.size;have s2:=g1.size;have s3:=hy.size;have s4:=hg.size;have lg:=hseg.lt g rfl;have hbne:(Value.slice aa k ac).ownBlock≠some b:=fun e=>by have:=(hack.lt b e).1;omega
 have e2:w5.heap[b]? =some (.cells (Am s u1 u2 u3 u4 (.slice (some (Ad g 0)) (k+1) c) (.slice aa k ac)) 93):=by
  rw[hg.block b (by omega) (fun e=>hbne e.symm),hy.block b (by omega) (by simp)];exact e1
 have g5:=dV w5 b 9 (.slice (some (Ad g2 0)) (k+1) c2);have k1:(w3.setCell (Ad b 8) (.slice (some (Ad g 0)) (k+1) c)).ownsRow wc.heap.size 3 1 (.slice (some (Ad g 0)) (k+1) c) (k+1) (ints ((s.ah.take k).map fun r=>r.aT.length)++[Im (r.aT.length:Int)]):=hseg.kept g1 (by
  right;intro e;simp only[Value.ownBlock,Option.some.injEq]at e;omega)
 have k2:=(k1.kept hy (by simp[Value.ownBlock])).kept hg (by
  cases hc:(Value.slice aa k ac).ownBlock with
  |none=>right;simp[Value.ownBlock]
  |some x=>
   right;intro e;exact hne (hc.trans e.symm))
 refine⟨aA e2,fun j=>eu e2,heap_setCell_same _ _ _ _ _ _ e2,?_,?_,?_,?_⟩
 .rw[Ve _ (fun r=>r.aT.length) k r hr];exact k2.kept g5 (by
   right;intro e;simp only[Value.ownBlock,Option.some.injEq]at e;omega)
 .rw[Ve _ (fun r=>r.aX.length) k r hr];exact how.kept g5 (by
   right;intro e;have:=(how.lt g2 rfl).1;simp only[Value.ownBlock,Option.some.injEq]at e;omega)
 .right;intro e;simp only[Value.ownBlock,Option.some.injEq]at e;subst e;rcases hat with e2|e2
  .exact hne e2
  .omega
 .exact(((hgr.trans g1).andThen hy fun j hj=>by cases hj).andThen hg fun j hj=>Or.inl (hack.lt j hj).1).trans g5
theorem aij{y wv W wc wr:World}{u1 u2 u3 u4:Value}{sa aa:Option Addr}{b sc ac:Nat}(hsz:y.heap.size=w.heap.size+1)(hy:w.grownBy y none)(hz:y.heap[w.heap.size]? =some (.cells #[Im 0,Im 0,Im 0,Im 0,Nl,Nl,Nl,Nl,Nl,Nl,Im 0,Im 0,Im 0,Im 0,Im 0,Im 0,Im 0,Im 0] 93))(kv:Sl s y u1 u2 u3 wv)(gw:wv.grownBy W none)(hB:Gl W s u1 u2 u3 b u4 wc)(hC:zq wc s b u1 u2 u3 u4 sa aa sc ac s.ah.length wr):
 wr.heap[w.heap.size]? =some (.cells #[Im 0,Im 0,Im 0,Im 0,Nl,Nl,Nl,Nl,Nl,Nl,Im 0,Im 0,Im 0,Im 0,Im 0,Im 0,Im 0,Im 0] 93)/\(∀wf,wr.grownBy wf (some w.heap.size)->Ju s w u1 u2 u3 u4 (.slice sa s.ah.length sc) (.slice aa s.ah.length ac) wf):=by
 obtain⟨v1,v2,v3,gv⟩:=kv;obtain⟨hb,hbk,hr4,hn4,gc⟩:=hB;have s1:=gv.size;have s2:=gw.size;have s3:=gc.size;have s4:=hC.grown.size;have hbl:=(Array.getElem?_eq_some_iff.1 hbk).1;have g1:=gv.trans (gw.trans gc);refine⟨?_,fun wf gf=>?_⟩
 .rw[hC.grown.block _ (by omega) (by simp;omega),g1.block _ (by omega) (by simp)];exact hz
 have kp:∀{x:World}{B:Nat}{T:TypeId}{z n:Nat}{u:Value}{us:List Value},x.ownsRow B T z u n us->x.grownBy wc none->y.heap.size<=B->x.heap.size<=b->wf.ownsRow w.heap.size T z u n us:=fun{x B T z n u us} hr hg hB hx=>by
  have h1:=hr.kept hg (by cases u.ownBlock<;>simp);have h2:=h1.kept hC.grown (by
   cases hc:u.ownBlock with
   |none=>exact Or.inl rfl
   |some k=>
    right;intro e;cases e;have:=(hr.lt b hc).2;omega)
  have h3:=h2.kept gf (by
   cases hc:u.ownBlock with
   |none=>exact Or.inl rfl
   |some k=>
    right;intro e;cases e;have:=(hr.lt w.heap.size hc).1;omega)
  exact wu h3 (by omega)
 have kq:∀{T:TypeId}{n:Nat}{u:Value}{us:List Value},wr.ownsRow wc.heap.size T 1 u n us->wf.ownsRow w.heap.size T 1 u n us:=fun{T n u us} hr=>by
  have h3:=hr.kept gf (by
   cases hc:u.ownBlock with
   |none=>exact Or.inl rfl
   |some k=>
    right;intro e;cases e;have:=(hr.lt w.heap.size hc).1;omega)
  exact wu h3 (by omega)
 have t0:s.ah.take s.ah.length=s.ah:=List.take_length;refine⟨kp v1 (gw.trans gc) (Nat.le_refl _) (by omega),kp v2 (gw.trans gc) (Nat.le_refl _) (by omega),kp v3 (gw.trans gc) (Nat.le_refl _) (by omega),?_,?_,?_,((hy.trans g1).andThen hC.grown fun j hj=>Or.inl (by cases hj;omega)).andThen gf fun j hj=>Or.inl (by cases hj;omega)⟩
 .have h2:=hr4.kept hC.grown (by
   cases hc:u4.ownBlock with
   |none=>exact Or.inl rfl
   |some k=>exact Or.inr fun e=>hn4 (by rw[hc,e]))
  have h3:=h2.kept gf (by
   cases hc:u4.ownBlock with
   |none=>exact Or.inl rfl
   |some k=>
    right;intro e;cases e;have:=(hr4.lt w.heap.size hc).1;omega)
  exact wu h3 (by omega)
 .have:=kq hC.aT
  rwa [t0]at this
 .have:=kq hC.aX
  rwa [t0]at this
theorem aik(tmps:Array Value)(w:World)(g:Nat)(i0 i1 i2 i3 i4 i5 i6 i7 i8 i9 OU i11:Int)(a0 a1 a2 a3 a4 a5:Option Addr)(n0 c0 n1 c1 n2 c2 n3 c3 n4 c4 n5 c5:Nat)(h2:tmps[2]? =some (Pt g 0))(h:w.heap[g]? =some (.cells #[Im i0,Im i1,Im i2,Im i3,.slice a0 n0 c0,.slice a1 n1 c1,.slice a2 n2 c2,.slice a3 n3 c3,.slice a4 n4 c4,.slice a5 n5 c5,Im i4,Im i5,Im i6,Im i7,Im i8,Im i9,Im OU,Im i11] 93)):
 (results Tryz.f37 tmps).run prog w=.ok (.agg #[Im i0,Im i1,Im i2,Im i3,.slice a0 n0 c0,.slice a1 n1 c1,.slice a2 n2 c2,.slice a3 n3 c3,.slice a4 n4 c4,.slice a5 n5 c5,Im i4,Im i5,Im i6,Im i7,Im i8,Im i9,Im OU,Im i11]) w:=by
 have q0:w.cell? (Ad g 0)=some (Im i0):=aA h;have q1:w.cell? (Ad g 1)=some (Im i1):=aA h;have q2:w.cell? (Ad g 2)=some (Im i2):=aA h;have q3:w.cell? (Ad g 3)=some (Im i3):=aA h;have q4:w.cell? (Ad g 4)=some (.slice a0 n0 c0):=aA h;have q5:w.cell? (Ad g 5)=some (.slice a1 n1 c1):=aA h;have q6:w.cell? (Ad g 6)=some (.slice a2 n2 c2):=aA h;have q7:w.cell? (Ad g 7)=some (.slice a3 n3 c3):=aA h;have q8:w.cell? (Ad g 8)=some (.slice a4 n4 c4):=aA h;have q9:w.cell? (Ad g 9)=some (.slice a5 n5 c5):=aA h;have q10:w.cell? (Ad g 10)=some (Im i4):=aA h;have q11:w.cell? (Ad g 11)=some (Im i5):=aA h;have q12:w.cell? (Ad g 12)=some (Im i6):=aA h;have q13:w.cell? (Ad g 13)=some (Im i7):=aA h;have q14:w.cell? (Ad g 14)=some (Im i8):=aA h;have q15:w.cell? (Ad g 15)=some (Im i9):=aA h;have q16:w.cell? (Ad g 16)=some (Im OU):=aA h;have q17:w.cell? (Ad g 17)=some (Im i11):=aA h;simp[results,Tryz.results37,go_sem,h2,q0,q1,q2,q3,q4,q5,q6,q7,q8,q9,q10,q11,q12,q13,q14,q15,q16,q17]
end
end
section
open Go.RowKit Hx
section
variable {w w' w2 w1 W:World}{s:aO}
theorem Pj{L b:Nat}(hn:b≠L):∀(vs:List Value)(o:Nat){x:World},(∀j:Nat,x.cell? (Ad L j)=W.cell? (Ad L j))->∀j:Nat,(x.setCells b o vs).cell? (Ad L j)=W.cell? (Ad L j)
 |[],_,_,h=>h
 |_::vs,o,_,h=>Pj hn vs (o+1) (EL h hn)
theorem MI{b n:Nat}{cs:Array Value}{T:TypeId}(h:w.heap[b]? =some (.cells cs T))(hn:n<=cs.size):w.there b 0 n:=fun j hj=>by
 refine⟨?_,eu h⟩;rw[aA h,Nat.zero_add,Array.getElem?_eq_getElem (by omega)]
 rfl
theorem agG{b:Nat}{cs:List Value}{T:TypeId}(h:w.heap[b]? =some (.cells cs.toArray T)):w.rangeAt b 0 cs:=fun j v hv=>by
 rw[Nat.zero_add,aA h];simpa using hv
theorem L9(b:Nat):∀(vs:List Value)(o:Nat)(x:World),x.grownBy (x.setCells b o vs) (some b)
 |[],_,_=>World.grownBy.refl _ _
 |v::vs,o,x=>(dV x b o v).trans (L9 b vs (o+1) _)
theorem XR{b:Nat}{T:TypeId}:∀(vs pre rest:List Value){x:World},rest.length=vs.length->x.heap[b]? =some (.cells (pre++rest).toArray T)->(x.setCells b pre.length vs).heap[b]? =some (.cells (pre++vs).toArray T)
 |[],pre,rest,x,hl,h=>by
  have:rest=[]:=List.eq_nil_of_length_eq_zero hl;subst this;exact h
 |v::vs,pre,rest,x,hl,h=>by
  match rest,hl with
  |r::rest,hl=>
   have h1:=heap_setCell_same x b pre.length _ _ v h;have h2:(x.setCell (Ad b pre.length) v).heap[b]? =some (.cells ((pre++[v])++rest).toArray T):=by
    rw[h1];simp
   have h3:=XR vs (pre++[v]) rest (by simpa using hl) h2;rw[List.length_append,List.length_singleton,List.append_assoc]at h3;exact h3
theorem Qs{b:Nat}{T:TypeId}{vs zs:List Value}{x:World}(hl:zs.length=vs.length)(h:x.heap[b]? =some (.cells zs.toArray T)):(x.setCells b 0 vs).heap[b]? =some (.cells vs.toArray T):=XR vs [] zs hl h
theorem X3{u1 u2 u3 u4:Value}{b:Nat}{wx:World}(hb:W.heap.size<=b)(hz:wx.heap[b]? =some (.cells #[Im 0,Im 0,Im 0,Im 0,Nl,Nl,Nl,Nl,Nl,Nl,Im 0,Im 0,Im 0,Im 0,Im 0,Im 0,Im 0,Im 0] 93))(hr:wx.ownsRow W.heap.size 72 3 u4 s.aP.length (kX s.all s.aP))(hn:u4.ownBlock≠some b)(hg:W.grownBy wx none):
 Gl W s u1 u2 u3 b u4 (wx.setCells b 0 [Im (s.acc:Int),Im (s.bQ:Int),Im (s.dA:Int),Im (s.dN:Int),u1,u2,u3,u4,Nl,Nl,Im s.r0,Im s.r1,Im s.r2,Im s.r3,Im s.r4,Im s.r5,Im s.r6,Im s.r7]):=by
 have k1:=Qs (vs:=[Im (s.acc:Int),Im (s.bQ:Int),Im (s.dA:Int),Im (s.dN:Int),u1,u2,u3,u4,Nl,Nl,Im s.r0,Im s.r1,Im s.r2,Im s.r3,Im s.r4,Im s.r5,Im s.r6,Im s.r7]) (by rfl) hz;have k2:=L9 b [Im (s.acc:Int),Im (s.bQ:Int),Im (s.dA:Int),Im (s.dN:Int),u1,u2,u3,u4,Nl,Nl,Im s.r0,Im s.r1,Im s.r2,Im s.r3,Im s.r4,Im s.r5,Im s.r6,Im s.r7] 0 wx;refine⟨hb,k1,hr.kept k2 ?_,hn,hg.andThen k2 fun j hj=>Or.inl (by cases hj;exact hb)⟩;cases hc:u4.ownBlock with
 |none=>exact Or.inl rfl
 |some k=>exact Or.inr fun e=>hn (by rw[hc,e])
theorem aie{y:World}{u1 u2 u3 u4:Value}(hy:W.grownBy y none)(h:wX s s.aP y u4 w2):Gl W s u1 u2 u3 w2.heap.size u4 ((w2.alloc (.cells #[Im 0,Im 0,Im 0,Im 0,Nl,Nl,Nl,Nl,Nl,Nl,Im 0,Im 0,Im 0,Im 0,Im 0,Im 0,Im 0,Im 0] 93)).setCells w2.heap.size 0 [Im (s.acc:Int),Im (s.bQ:Int),Im (s.dA:Int),Im (s.dN:Int),u1,u2,u3,u4,Nl,Nl,Im s.r0,Im s.r1,Im s.r2,Im s.r3,Im s.r4,Im s.r5,Im s.r6,Im s.r7]):=by
 obtain⟨_,h1,h2⟩:=h;have s1:=hy.size;have s2:=h2.size;exact X3 (by omega) (heap_alloc_new _ _) (wu (h1.alloc _) s1) (fun e=>by have:=(h1.lt _ e).2;omega) ((hy.trans h2).trans (World.grownBy_alloc w2 _ none))
theorem aic{y:World}{u1 u2 u3 u4:Value}{b:Nat}(hy:W.grownBy y none)(hb:W.heap.size<=b)(hz:y.heap[b]? =some (.cells #[Im 0,Im 0,Im 0,Im 0,Nl,Nl,Nl,Nl,Nl,Nl,Im 0,Im 0,Im 0,Im 0,Im 0,Im 0,Im 0,Im 0] 93))(h:wX s s.aP y u4 w2):Gl W s u1 u2 u3 b u4 (w2.setCells b 0 [Im (s.acc:Int),Im (s.bQ:Int),Im (s.dA:Int),Im (s.dN:Int),u1,u2,u3,u4,Nl,Nl,Im s.r0,Im s.r1,Im s.r2,Im s.r3,Im s.r4,Im s.r5,Im s.r6,Im s.r7]):=by
 obtain⟨_,h1,h2⟩:=h;have s1:=hy.size;have lb:=(Array.getElem?_eq_some_iff.1 hz).1;exact X3 hb ((h2.block b lb (by simp)).trans hz) (wu h1 s1) (fun e=>by have:=(h1.lt _ e).1;omega) (hy.trans h2)
end
end
end Go.Proofs.YthllhabjfchgiaaGreatDoor
