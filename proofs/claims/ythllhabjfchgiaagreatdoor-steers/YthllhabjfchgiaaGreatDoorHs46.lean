import Derived.Test.YthllhabjfchgiaaGreatDoorHs45
set_option maxRecDepth 100000
set_option maxHeartbeats 8000000
set_option linter.unusedSimpArgs false
namespace Go.Proofs.YthllhabjfchgiaaGreatDoor
open _root_.Go.Proofs.Tryz
section
open Go.RowKit
open Hx (Rd Pk Vw St Mc jK Out Ls)
attribute [local go_sem ↓] Go.wp_at_zero Go.wp_at_succ
attribute [local go_sem] kN
section
variable {w w':jk}
def ajl(W:jk)(ar af aa:Option Addr)(nr cr nf cf na ca:Nat)(s:ji)(b:Bool)(z0 z1 z2 z3 z4 z5 z6 z7:Int)(nR:List (Int×Int)):Prop:=
 ∀y,Below W.heap.size W y->Calls prog 26 #[.string s,.bool b,.agg #[.slice ar nr cr,.slice af nf cf,.slice aa na ca],.agg #[Im 0,Im 0,Im 0,Im 0,Im 0,Im 0,Im 0,Im 0]] y λe w'=>∃a c,e=.returned (.tuple #[.agg #[.int .u8 0,.slice a nR.length c,Im z0,Im z1,Im z2,Im z3,Im z4,Im z5,Im z6,Im z7],.bool true])/\w'.ownsRow y.heap.size 76 2 (.slice a nR.length c) nR.length (nT nR)/\Below y.heap.size y w'
structure aaZ(w W:jk)(V A B:Nat)(ar af aa a1 a2:Option Addr)(nr cr nf cf na ca n c1 c2:Nat)(u:Vw)(z0 z1 z2 z3 z4 z5 z6 z7:Int)(nR:List (Int×Int)):Prop where
 below:Below w.heap.size w W
 vb:W.heap[V]? =some (.cells #[.slice ar nr cr,.slice af nf cf,.slice aa na ca] 25)
 a:W.heap[A]? =some (.cells #[.int .u8 0,.slice a1 n c1,Im z0,Im z1,Im z2,Im z3,Im z4,Im z5,Im z6,Im z7] 35)
 b:W.heap[B]? =some (.cells #[.int .u8 0,.slice a2 n c2,Im z0,Im z1,Im z2,Im z3,Im z4,Im z5,Im z6,Im z7] 35)
 ra:W.ownsRow w.heap.size 76 2 (.slice a1 n c1) n (nT nR)
 rb:W.ownsRow w.heap.size 76 2 (.slice a2 n c2) n (nT nR)
 view:uV W.heap.size W ar af aa nr nf na u
theorem Dh{W y:jk}{n c b:Nat}{a:Option Addr}{e:List jm}(g:W.ownsRow b 76 2 (.slice a n c) n e)(d:Below W.heap.size W y):y.ownsRow b 76 2 (.slice a n c) n e:=
 g.kept (w':=y) (row:=none) ⟨d.os,d.tape,d.output,d.size,λk f _=>d.block k f⟩ (by cases Value.ownBlock (.slice a n c)<;>simp)
theorem ani{u:Vw}(h:vJ u=true){r:Rd}(a:r∈u.jU):0<=r.id/\r.id<8:=by
 unfold vJ at h;simp only[dD]at h;exact Wh _ _ h.2 r a
theorem UO{B:Nat}{w W:jk}(h:Below B w W)(n:Nat):Below B w (W.drewN n):=⟨h.os,h.tape,h.output,h.size,λk a=>h.block k a⟩
theorem aah(v:Vw):∀k,(oM v k).length<=k
 |0=>aj _
 |k+1=>by
  have a:=aah v k;have b:(DV v k).length<=1:=by
   unfold DV;repeat' split
   all_goals simp
  unfold oM at *;rw[List.range_succ,gu,List.flatMap_singleton,aA];omega
theorem akk{B n c:Nat}{W y:jk}{a:Option Addr}{f:List jm}(b:W.grownBy y (Value.slice a n c).ownBlock)(d:W.ownsRow B 76 2 (.slice a n c) n f)(g:B<=W.heap.size):Below B W y:=
 ⟨b.os,b.tape,b.output,b.size,λk h=>b.block k (by omega) λe=>by have:=(d.lt k e.symm).1;omega⟩
theorem UQ{B b:Nat}{W X y:jk}(h:Below B W X)(d:B<=W.heap.size)(a:X.grownBy y (some b))(c:B<=b):Below B W y:=by
 have f:=h.size;exact h.trans ⟨a.os,a.tape,a.output,a.size,λk g=>a.block k (by omega) λe=>by simp only[bJ]at e;omega⟩
theorem Lp{X y:jk}{a:Nat}{cs:Array jm}{T:jo}(c:X.grownBy y (some a))(b:y.heap[a]? =some (.cells cs T))(j:Nat)(v:jm)(n:Nat):X.grownBy ((y.setCell (Ad a j) v).drewN n) (some a)/\((y.setCell (Ad a j) v).drewN n).heap[a]? =some (.cells (cs.setIfInBounds j v) T):=
 ⟨(c.trans (mM _ _ _ _)).trans ⟨rfl,rfl,rfl,aj _,λ_ _ _=>rfl⟩,aK _ _ _ _ _ _ b⟩
theorem al7{X y:jk}{r:Option Nat}(h:X.grownBy y none):X.grownBy y r:=⟨h.os,h.tape,h.output,h.size,λk a _=>h.block k a (by simp)⟩
theorem aqV(w:jk)(B:Nat):w.ownsRow B 76 2 (Nl) 0 (nT []):=⟨rfl,jf ⟨rfl,rfl⟩⟩
theorem aur(x:Raw)(v:Vw)(hv:uV w.heap.size w x.ar x.af x.aa x.nr x.nf x.na v)(ab:x.nr<=maxLen)(z0 z1 z2 z3 z4 z5 z6 z7:Int)(I:List (Int×Int))
 (hR:∀(W:jk)(ar af aa:Option Addr)(z cr A cf g ca:Nat)(s:ji)(b:Bool),s=jQ->Below w.heap.size w W->uV W.heap.size W ar af aa z A g (rQ v)->ajl W ar af aa z cr A cf g ca s b z0 z1 z2 z3 z4 z5 z6 z7 I)
 (hz:I=oM (rQ v) ((rQ v).jW.length+(rQ v).kK.length)/\z0=(rQ v).jU.length/\z1=xM (rQ v).kK (rQ v).kK.length/\z2=Az (rQ v).jW (qJ (rQ v).jW (rQ v).jW.length)/\z3=Hx.lD (DW (rQ v).jU (rQ v).jU.length)/\z4=Hx.lD (decide ((rQ v).kK.length=0))/\z5=0/\z6=0/\z7=0):
 Calls prog 6 #[.agg #[.slice x.ar x.nr x.cr,.slice x.af x.nf x.cf,.slice x.aa x.na x.ca]] w λe w'=>e=.returned (.bool true)/\Below w.heap.size w w':=by
 have HZ:=jA hz;clear hz;have HR:=jA hR;have PO:=jA hv;have aF:=jA ab;clear hR hv ab;go_enter func6,ntmps6;go_wp2_with fail;refine(avq x v (PO.out.later (zu _ _) (zu _ _).size) aF.out).mono ?_;rintro e J ⟨vr,vf,va,rfl,CW⟩;obtain⟨ar,af,aa,cr,cf,ca,rfl,rfl,rfl,GZ⟩:=CW.view PO.out.yX;have a8:=aio v PO.out.yX;have pq:=jA (yw (zu _ _) CW.below);have Uk:=jA HR.out;clear CW HR PO aF;generalize rQ v=u at *;have aH:=jA a8;obtain⟨z,ab⟩:∃z,u.jU.length=z:=⟨_,rfl⟩;obtain⟨A,av⟩:∃A,u.kK.length=A:=⟨_,rfl⟩;obtain⟨g,au⟩:∃g,u.jW.length=g:=⟨_,rfl⟩;rw[ab,av,au]at GZ⊢;have PN:=jA GZ;have N:Hid (u.jU.length=z/\u.kK.length=A/\u.jW.length=g):=⟨ab,av,au⟩;have MO:=jA (Uk.out _ ar af aa z cr A cf g ca jQ false rfl pq.out PN.out);have aP:=jA (Uk.out _ ar af aa z cr A cf g ca jQ true rfl pq.out PN.out);clear a8 ab av au Uk GZ;go_wp2_with fail;refine(MO.out _ (zu _ _)).mono ?_;rintro e w2 ⟨a1,L,rfl,bc,g2⟩;have ac:=jA (wR (JR _ _) g2);have al:=jA (yw (zu _ _) g2);have aT:=jA bc;have am:Hid (J.heap.size<w2.heap.size):=by
  have:=g2.size;rw[Nq]at this;exact this
 have k0:w2.cell? (Ad J.heap.size 0)=some (.slice ar z cr):=jG ac.out;have k1:w2.cell? (Ad J.heap.size 1)=some (.slice af A cf):=jG ac.out;have k2:w2.cell? (Ad J.heap.size 2)=some (.slice aa g ca):=jG ac.out;have cg:J.heap.size<w2.heap.size:=am.out;have Xi:¬J.heap.size=w2.heap.size:=by omega
 clear g2 bc MO;go_wp2_with fail;have Np:=zu w2 (.cells #[.int .u8 0,.slice a1 I.length L,Im z0,Im z1,Im z2,Im z3,Im z4,Im z5,Im z6,Im z7] 35);refine(aP.out _ (yw al.out Np)).mono ?_;rintro e w3 ⟨a2,H,rfl,bd,g3⟩;have Iz:=zu w3 (.cells #[.int .u8 0,.slice a2 I.length H,Im z0,Im z1,Im z2,Im z3,Im z4,Im z5,Im z6,Im z7] 35);have bg:Hid (J.heap.size<w2.heap.size/\w2.heap.size<w3.heap.size):=by
  have:=g3.size;rw[Nq]at this;exact⟨am.out,this⟩
 have aD:Hid (aaZ w (w3.alloc (.cells #[.int .u8 0,.slice a2 I.length H,Im z0,Im z1,Im z2,Im z3,Im z4,Im z5,Im z6,Im z7] 35)) J.heap.size w2.heap.size w3.heap.size ar af aa a1 a2 z cr A cf g ca I.length L H u z0 z1 z2 z3 z4 z5 z6 z7 I):=by
  have b3:Below J.heap.size J w3:=yw (yw al.out Np) g3;have b4:=yw b3 Iz;have s1:=pq.out.size;have s2:=bg.out;have s3:=Iz.size;refine⟨yw pq.out b4,wR (wR (wR ac.out Np) g3) Iz,wR (wR (JR _ _) g3) Iz,JR _ _,?_,?_,PN.out.later b4 (by omega)⟩
  .have r1:=Dh (Dh (Dh aT.out Np) g3) Iz;exact Lj r1 (by rw[Nq];omega)
  .exact Lj (Dh bd Iz) (by rw[Nq];omega)
 clear g3 bd Np Iz aP aT ac al am cg Xi k0 k1 k2;obtain⟨W,HW⟩:∃W,Hid (w3.alloc (.cells #[.int .u8 0,.slice a2 I.length H,Im z0,Im z1,Im z2,Im z3,Im z4,Im z5,Im z6,Im z7] 35)=W):=⟨_,rfl⟩;have E:Hid (aaZ w W J.heap.size w2.heap.size w3.heap.size ar af aa a1 a2 z cr A cf g ca I.length L H u z0 z1 z2 z3 z4 z5 z6 z7 I):=by unfold Hid;rw[<-HW.out];exact aD.out
 clear aD pq PN;go_upto_region 5 with fail;rw[HW.out];clear HW;have ka:W.cell? (Ad w2.heap.size 0)=some (.int .u8 0):=jG E.out.a;have kb:W.cell? (Ad w3.heap.size 0)=some (.int .u8 0):=jG E.out.b;go_wp2_with fail;clear ka kb;have cz:z<=8/\A<=16/\g<=16:=by
  obtain⟨h1,h2,h3⟩:=N.out;have:=aH.out;unfold vJ at this;simp only[dD,decide_eq_true_eq]at this;omega
 go_loopg [9,10] (g+A) (λV s9 ch wr=>∃k:Nat,k+V=g+A/\ch=Im k/\Below W.heap.size W wr/\∃aw cw,s9=.slice aw (oM u k).length cw/\wr.ownsRow W.heap.size 76 2 (.slice aw (oM u k).length cw) (oM u k).length (nT (oM u k)))
 case atStart=>exact⟨0,by omega,rfl,dK _ _,none,0,rfl,aqV _ _⟩
 case round=>
  obtain⟨k,hk,rfl,hB,aw,cw,rfl,F⟩:=hrel;have m:=wR E.out.vb hB;have q0:wr.cell? (Ad J.heap.size 0)=some (.slice ar z cr):=jG m;have q1:wr.cell? (Ad J.heap.size 1)=some (.slice af A cf):=jG m;have q2:wr.cell? (Ad J.heap.size 2)=some (.slice aa g ca):=jG m;have S:=jA hB;have MN:=jA F;have hV:J.heap.size<wr.heap.size:=lT m;have VG:¬J.heap.size=wr.heap.size:=by omega
  by_cases cy:k<g+A
  .as_aux_lemma=>
   have d1:decide ((k:Int)<(g:Int)+(A:Int))=true:=by simp;omega
   obtain⟨p,hp⟩:∃p,IK u k=some p:=by
    unfold IK;obtain⟨h1,h2,h3⟩:=N.out;rw[h3];split
    .exact⟨_,bU (by omega)⟩
    .exact⟨_,bU (by omega)⟩
   have Uh:=jA hp;clear hB F m hp;obtain⟨gO,VQ⟩:∃Q,gk=Q+1:=⟨gk-1,by omega⟩;go_upto_if 71 with fail;go_cut [] (λwx=>wx=wr.alloc (.cells #[Im p.seq,Im p.size,Im p.on] 72))
   case first=>
    by_cases a5:k<g
    .have d2:decide ((g:Int)<=(k:Int))=false:=by simp;omega
     have c:u.jW[k]? =some p:=by
      have:=Uh.out;unfold IK at this
      rwa [N.out.2.2,jh a5]at this
     obtain⟨b,o,l,d,U,o',e,L,H,O⟩:=E.out.view.jW k _ c;obtain⟨rfl,rfl⟩:b=U/\o+k * 3=o':=by simpa using e
     have m1:=(S.out.cell (p:=(Ad b (o+k * 3))) d).trans L;have m2:=(S.out.cell (p:=(Ad b (o+k * 3+1))) d).trans H;have m3:=(S.out.cell (p:=(Ad b (o+k * 3+2))) d).trans O;have i1:(0:Int)<=(k:Int):=by omega
     have G6:(k:Int)<(g:Int):=by omega
     have a3:¬b=wr.heap.size:=by have:=S.out.size;omega
     have a0:b<wr.heap.size:=by have:=S.out.size;omega
     rw[l]at q2;clear c e L H O l d;go_wp2_with fail;go_meet
     rfl
    .have d2:decide ((g:Int)<=(k:Int))=true:=by simp;omega
     have c:u.kK[k-g]? =some p:=by
      have:=Uh.out;unfold IK at this
      rwa [N.out.2.2,jg a5]at this
     obtain⟨b,o,l,d,U,o',e,L,H,O⟩:=E.out.view.kK (k-g) _ c;obtain⟨rfl,rfl⟩:b=U/\o+(k-g) * 3=o':=by simpa using e
     have m1:=(S.out.cell (p:=(Ad b (o+(k-g) * 3))) d).trans L;have m2:=(S.out.cell (p:=(Ad b (o+(k-g) * 3+1))) d).trans H;have m3:=(S.out.cell (p:=(Ad b (o+(k-g) * 3+2))) d).trans O;have i1:(0:Int)<=(k:Int)-(g:Int):=by omega
     have i2:((k:Int)-(g:Int)).toNat=k-g:=by omega
     have G6:(k:Int)-(g:Int)<(A:Int):=by omega
     have a3:¬b=wr.heap.size:=by have:=S.out.size;omega
     have a0:b<wr.heap.size:=by have:=S.out.size;omega
     rw[l]at q1;clear c e L H O l d;go_wp2_with fail;go_meet
     rfl
   case rest=>
    subst hcut;have p0:(wr.alloc (.cells #[Im p.seq,Im p.size,Im p.on] 72)).cell? (Ad wr.heap.size 0)=some (Im p.seq):=jG (JR _ _);obtain⟨Y,HY⟩:∃Y,Hid (wr.alloc (.cells #[Im p.seq,Im p.size,Im p.on] 72)=Y):=⟨_,rfl⟩;have F8:Hid (Below W.heap.size W Y):=by unfold Hid;rw[<-HY.out];exact yw S.out (zu _ _)
    have aL:Hid (Y.heap[wr.heap.size]? =some (.cells #[Im p.seq,Im p.size,Im p.on] 72)):=by unfold Hid;rw[<-HY.out];exact JR _ _
    have bl:Hid (Y.ownsRow W.heap.size 76 2 (.slice aw (oM u k).length cw) (oM u k).length (nT (oM u k))):=by unfold Hid;rw[<-HY.out];exact Dh MN.out (zu _ _)
    rw[HY.out];clear p0 HY S MN q0 q1 q2 hV VG;generalize wr.heap.size=PB at *;go_wp2_with fail;go_loopg [13,14] z (λV ci cj wy=>∃j:Nat,j+V=z/\cj=Im j/\ci=Im (rG u.jU (uK p (decide (u.jW.length<=k))) j)/\Below Y.heap.size Y wy)
    case atStart=>exact⟨0,by omega,rfl,rfl,dK _ _⟩
    case round=>
     obtain⟨j,hj,rfl,rfl,hY⟩:=hrel;have B:=yw F8.out hY;have m:=wR E.out.vb B;have ay:=wR aL.out hY;have q0:wr.cell? (Ad J.heap.size 0)=some (.slice ar z cr):=jG m;have p2:wr.cell? (Ad PB 2)=some (Im p.on):=jG ay;have hV:J.heap.size<wr.heap.size:=lT m;have VG:¬J.heap.size=wr.heap.size:=by omega
     have hP:PB<wr.heap.size:=lT ay;have cq:¬PB=wr.heap.size:=by omega
     have Us:=jA hY;clear hY m ay;by_cases bw:j<z
     .as_aux_lemma=>
      have d3:decide ((j:Int)<(z:Int))=true:=by simp;omega
      obtain⟨r,c⟩:∃r,u.jU[j]? =some r:=⟨_,bU (by rw[N.out.1];exact bw)⟩;obtain⟨b,o,l,d,U,o',e,L,H,O,c4,c5⟩:=E.out.view.jU j _ c;obtain⟨rfl,rfl⟩:b=U/\o+j * 5=o':=by simpa using e
      have m1:=(B.cell (p:=(Ad b (o+j * 5))) d).trans L;have m2:=(B.cell (p:=(Ad b (o+j * 5+1))) d).trans H;have m3:=(B.cell (p:=(Ad b (o+j * 5+2))) d).trans O;have m4:=(B.cell (p:=(Ad b (o+j * 5+3))) d).trans c4;have m5:=(B.cell (p:=(Ad b (o+j * 5+4))) d).trans c5;have cx:0<=r.id/\r.id<8:=ani aH.out (bT c);have i1:(0:Int)<=(j:Int):=by omega
      have G6:(j:Int)<(z:Int):=by omega
      have a3:¬b=wr.heap.size:=by have:=B.size;omega
      have a0:b<wr.heap.size:=by have:=B.size;omega
      have bj:=jA c;have BO:=jA B;rw[l]at q0;have PD:=jA l;clear c e L H O c4 c5 d B l;go_upto_region 21 with fail;go_cut [16] (λs wx=>s=.bool (Hx.xO p.on r.id&& !decide (g<=k))/\wx=wr.alloc (.cells #[Im r.id,Im r.qR,Im r.tZ,Im r.out,.bool r.wo] 74))
      case first=>
       have aZ:(bits .and .i64 (p.on/2^r.id.toNat) 1==1)=Hx.xO p.on r.id:=rfl;cases hh:Hx.xO p.on r.id;all_goals
        rw[hh]at aZ;go_wp2_with fail;go_meet;exact⟨by simp[hh],rfl⟩
      case rest=>
       obtain⟨rfl,rfl⟩:=hcut;have d:=RS u.jU (uK p (decide (u.jW.length<=k))) j;have MG:Hid (rG u.jU (uK p (decide (u.jW.length<=k))) (j+1)=if uK p (decide (u.jW.length<=k)) r&&(decide (rG u.jU (uK p (decide (u.jW.length<=k))) j<0)||decide (r.qR<Eh u.jU (rG u.jU (uK p (decide (u.jW.length<=k))) j)))then (j:Int)else rG u.jU (uK p (decide (u.jW.length<=k))) j):=by
        unfold Hid;rw[rG,bj.out]
       have bf:Hid (uK p (decide (u.jW.length<=k)) r=(decide (r.out<r.tZ)&& !(Hx.xO p.on r.id&& !decide (g<=k)))):=by
        unfold Hid uK;rw[N.out.2.2]
       generalize rG u.jU (uK p (decide (u.jW.length<=k))) j=f at *;generalize (Hx.xO p.on r.id&& !decide (g<=k))=bb at *;go_upto_region 22 with fail;go_cut [132] (λs wx=>s=.bool ((decide (r.out<r.tZ)&& !bb)&&(decide (f<0)||decide (r.qR<Eh u.jU f)))/\∃n,wx=(wr.alloc (.cells #[Im r.id,Im r.qR,Im r.tZ,Im r.out,.bool r.wo] 74)).drewN n)
       case first=>
        cases h1:decide (r.out<r.tZ)with
        |false=>
         go_quiet (fail);go_wp2_with fail;go_meet;exact⟨by rw[h1];simp,_,rfl⟩
        |true=>
         cases bb with
         |true=>
          go_quiet (fail);go_wp2_with fail;go_meet;exact⟨by simp,_,rfl⟩
         |false=>
          by_cases M:f<0
          .have h3:decide (f<0)=true:=by simpa using M
           go_quiet (fail);go_wp2_with fail;go_meet;exact⟨by rw[h1];simp[M],_,rfl⟩
          .have h3:decide (f<0)=false:=by simpa using M
           obtain⟨r2,C⟩:∃r,u.jU[f.toNat]? =some r:=⟨_,bU (by rw[N.out.1];omega)⟩;obtain⟨b2,o2,T,CU,ad,OW,e2,x1,x2,x3,x4,x5⟩:=E.out.view.jU f.toNat _ C;obtain⟨rfl,rfl⟩:b2=ad/\o2+f.toNat * 5=OW:=by simpa using e2
           have zF:b2=b/\o2=o:=by
            rw[PD.out]at T;simp only[bJ,Addr.mk.injEq,and_true]at T;exact⟨T.1.symm,T.2.symm⟩
           have y2:=(BO.out.cell (p:=(Ad b2 (o2+f.toNat * 5+1))) CU).trans x2;rw[zF.1,zF.2]at y2;have az:Eh u.jU f=r2.qR:=by
            unfold Eh;rw[C]
           have i3:(0:Int)<=f:=by omega
           have j3:f<(z:Int):=by omega
           clear C T CU e2 x1 x2 x3 x4 x5 zF;cases h4:decide (r.qR<r2.qR);all_goals
            go_quiet (fail);go_wp2_with fail;go_meet;exact⟨by rw[h1,h3,az,h4];rfl,_,rfl⟩
       case rest=>
        obtain⟨rfl,nd,rfl⟩:=hcut;rw[<-bf.out]at *;have be:Hid (Below Y.heap.size Y ((wr.alloc (.cells #[Im r.id,Im r.qR,Im r.tZ,Im r.out,.bool r.wo] 74)).drewN nd)):=yw Us.out (UO (zu _ _) nd);obtain⟨Q,bu⟩:∃Q,gk=Q+1:=⟨gk-1,by omega⟩;cases hc:(uK p (decide (u.jW.length<=k)) r&&(decide (f<0)||decide (r.qR<Eh u.jU f)));all_goals
         rw[hc]at MG;go_wp2_with fail;go_roundg Q
         case measure=>omega
         case rel=>exact⟨j+1,by omega,by go_num,by rw[MG.out];rfl,be.out⟩
     .as_aux_lemma=>
      have d3:decide ((j:Int)<(z:Int))=false:=by simp;omega
      have a4:j=u.jU.length:=by rw[N.out.1];omega
      have an:Hid (oM u (k+1)=oM u k++DV u k):=by
       unfold Hid oM;rw[List.range_succ,gu,List.flatMap_singleton]
      have Ub:Hid (DV u k=match u.mG (rG u.jU (uK p (decide (u.jW.length<=k))) j)with
       |some r=>[(r.id,p.seq)]
       |none=>[]):=by
       unfold Hid DV;rw[Uh.out,a4]
       rfl
      have d:=RS u.jU (uK p (decide (u.jW.length<=k))) j;generalize rG u.jU (uK p (decide (u.jW.length<=k))) j=f at *;have BO:=jA B;have F:=Dh bl.out Us.out;clear B a4;by_cases M:f<0
      .have d5:decide ((0:Int)<=f)=false:=by simpa using M
       have aA:Hid (oM u (k+1)=oM u k):=by
        unfold Hid;rw[an.out,Ub.out];unfold Hx.Vw.mG;rw[jh M,aX]
       have bq:=jA F;clear F;go_wp2_with fail;go_roundg gO
       case measure=>omega
       case rel=>exact⟨k+1,by omega,by go_num,BO.out,aw,cw,by rw[aA.out],by rw[aA.out];exact bq.out⟩
      .have d5:decide ((0:Int)<=f)=true:=by simpa using M
       obtain⟨r,C⟩:∃r,u.jU[f.toNat]? =some r:=⟨_,bU (by rw[N.out.1];omega)⟩;have aB:Hid (oM u (k+1)=oM u k++[(r.id,p.seq)]):=by
        unfold Hid;rw[an.out,Ub.out];unfold Hx.Vw.mG;rw[jg M,C]
       obtain⟨b,o,l,CU,U,o',e,L,H,O,c4,c5⟩:=E.out.view.jU f.toNat _ C;obtain⟨rfl,rfl⟩:b=U/\o+f.toNat * 5=o':=by simpa using e
       have m1:=(BO.out.cell (p:=(Ad b (o+f.toNat * 5))) CU).trans L;have p0:wr.cell? (Ad PB 0)=some (Im p.seq):=jG (wR aL.out Us.out);have i3:(0:Int)<=f:=by omega
       have j3:f<(z:Int):=by omega
       have cA:(oM u k).length<=32:=by
        have:=aah u k;omega
       have ct:=BO.out.size;have aI:Hid (∀(o:Obj)(n:Nat),((wr.alloc o).drewN n).ownsRow W.heap.size 76 2 (.slice aw (oM u k).length cw) (oM u k).length (nT (oM u k))):=λo n=>Dh F (UO (zu _ _) n);have bi:Hid (∀(o:Obj)(n:Nat)(y:jk),((wr.alloc o).drewN n).grownBy y (Value.slice aw (oM u k).length cw).ownBlock->Below W.heap.size W y):=λo n y hg=>by
        have b1:Below W.heap.size W ((wr.alloc o).drewN n):=UO (yw BO.out (zu _ _)) n;exact b1.trans (akk hg (aI.out o n) (by show _<=(wr.alloc o).heap.size;rw[Nq];omega))
       obtain⟨i0,bv,bC,bD,bE⟩:=info_parts adM;have bz:(oM u k).length+1<=maxLen:=by unfold maxLen;omega
       have bt:((oM u k).length+1) * 16<=140737488355328:=by omega
       have PD:=jA l;rw[l]at q0;have TW:Hid (nT (oM u (k+1))=nT (oM u k)++[Im r.id,Im p.seq]/\(oM u (k+1)).length=(oM u k).length+1):=by
        unfold Hid;rw[aB.out];simp[nT]
       clear C e L H O c4 c5 CU l F aB an Ub;generalize nT (oM u k)=ao at *;generalize (oM u k).length=ba at *;go_upto_region 25 with fail;go_region_law ((refine step_append_lies _ (by rfl) _ _ _ (by rfl) W.heap.size 76 i0 _ 2 16 Tryz.underlying33 bv bC bD bE (by rfl) (by omega) (.slice aw ba cw) ba ao (by rfl) (aI.out _ 1) (Ad wr.heap.size 0) 1 1 [Im r.id,Im p.seq] (by rfl) (by rfl) (fM (cs:=#[Im r.id,Im p.seq]) (t:=76) (fr:=(0,0)) (aY wr _)) (by simp[Value.oneCell']) (by omega) bz bt (by simp;omega) (wr.heap.size+1) (by simp) ?_;intro V aW w5 ax aq cv aV));all_goals
        go_wp2_with fail;go_roundg gO
        case measure=>omega
        case rel=>exact⟨k+1,by omega,by go_num,bi.out _ 1 _ aq,some (Ad V 0),aW,by rw[TW.out.2],by rw[TW.out.1,TW.out.2];exact ax⟩
  .as_aux_lemma=>
   have d1:decide ((k:Int)<(g:Int)+(A:Int))=false:=by simp;omega
   obtain rfl:k=g+A:=by omega
   have ML:Hid (W.heap.size<=wr.heap.size):=hB.size;clear hB F m;go_upto_region 28 with fail;obtain⟨X,HX⟩:∃X,Hid (wr.alloc (.cells #[Im z,Im 0,Im 0,Im 0,Im 0,Im 0,Im 0,Im 0] 26)=X):=⟨_,rfl⟩;have JA:Hid (Below W.heap.size W X):=by unfold Hid;rw[<-HX.out];exact yw S.out (zu _ _)
   have aJ:Hid (X.ownsRow W.heap.size 76 2 (.slice aw (oM u (g+A)).length cw) (oM u (g+A)).length (nT (oM u (g+A)))/\(Value.slice aw (oM u (g+A)).length cw).ownBlock≠some wr.heap.size):=by
    unfold Hid;rw[<-HX.out];exact⟨Dh MN.out (zu _ _),λe=>by have:=(MN.out.lt _ e).2;omega⟩
   have bk:Hid (X.heap[wr.heap.size]? =some (.cells #[Im z,Im 0,Im 0,Im 0,Im 0,Im 0,Im 0,Im 0] 26)):=by unfold Hid;rw[<-HX.out];exact JR _ _
   rw[HX.out];clear HX S MN q0 q1 q2 hV VG;generalize wr.heap.size=K at *;go_wp2_with fail;go_loopg [19] A (λV cl wy=>∃j:Nat,j+V=A/\cl=Im j/\X.grownBy wy (some K)/\wy.heap[K]? =some (.cells #[Im z,Im (xM u.kK j),Im 0,Im 0,Im 0,Im 0,Im 0,Im 0] 26))
   case atStart=>exact⟨0,by omega,rfl,aN _ _,bk.out⟩
   case round=>
    obtain⟨j,hj,rfl,hX,hR⟩:=hrel;have B:=UQ JA.out (aj _) hX ML.out;have m:=wR E.out.vb B;have q1:wr.cell? (Ad J.heap.size 1)=some (.slice af A cf):=jG m;have k1:wr.cell? (Ad K 1)=some (Im (xM u.kK j)):=jG hR;have f1:wr.frozen? (Ad K 1)=false:=nA hR;have F8:=jA B;have Dz:=jA hX;have G:=jA hR;have VF:¬J.heap.size=K:=by have:=lT E.out.vb;have:=ML.out;omega
    clear B hX hR m;by_cases a6:j<A
    .have d2:decide ((j:Int)<(A:Int))=true:=by simp;omega
     obtain⟨gO,VQ⟩:∃Q,gk=Q+1:=⟨gk-1,by omega⟩;obtain⟨p,c⟩:∃p,u.kK[j]? =some p:=⟨_,bU (by rw[N.out.2.1];exact a6)⟩;have bn:Hid (xM u.kK (j+1)=wrap64 (xM u.kK j+p.size)):=by
      unfold Hid;rw[xM,c]
     obtain⟨b,o,l,d,U,o',e,L,H,O⟩:=E.out.view.kK j _ c;obtain⟨rfl,rfl⟩:b=U/\o+j * 3=o':=by simpa using e
     have m2:=(F8.out.cell (p:=(Ad b (o+j * 3+1))) d).trans H;have i1:(0:Int)<=(j:Int):=by omega
     have G6:(j:Int)<(A:Int):=by omega
     rw[l]at q1;clear c e L H O l d;go_upto_region 32 with fail;refine nO 10 (by kernel_rfl) (by kernel_rfl) ?_;simp only[aC,aO,aG,aQ];repeat (go_big_quiet_step (fail))
     refine bF ?_;intro _ bB;obtain⟨nd,a9⟩:=bB;subst a9;go_wp2_with fail;go_roundg gO
     case measure=>omega
     case rel=>
      obtain⟨t1,t2⟩:=Lp Dz.out G.out 1 (Im (wrap64 (xM u.kK j+p.size))) nd;exact⟨j+1,by omega,by go_num,t1,by rw[bn.out];exact t2⟩
    .have d2:decide ((j:Int)<(A:Int))=false:=by simp;omega
     obtain rfl:j=A:=by omega
     go_upto_region 33 with fail;clear k1 f1 q1;generalize wr=X2 at *;go_wp2_with fail;go_loopg [18,20] g (λV ck cm wy=>∃i:Nat,i+V=g/\cm=Im i/\ck=Im (qJ u.jW i)/\X2.grownBy wy none)
     case atStart=>exact⟨0,by omega,rfl,rfl,aN _ _⟩
     case round=>
      obtain⟨i,hi,rfl,rfl,hX⟩:=hrel;have B:=yw F8.out (Below.Jh hX);have m:=wR E.out.vb B;have q2:wr.cell? (Ad J.heap.size 2)=some (.slice aa g ca):=jG m;have BO:=jA B;have PU:=jA hX;clear B hX m;by_cases a7:i<g
      .have d4:decide ((i:Int)<(g:Int))=true:=by simp;omega
       obtain⟨gO,VQ⟩:∃Q,gk=Q+1:=⟨gk-1,by omega⟩;obtain⟨p,c⟩:∃p,u.jW[i]? =some p:=⟨_,bU (by rw[N.out.2.2];exact a7)⟩;have aE:Hid (qJ u.jW (i+1)=if decide (qJ u.jW i<0)||decide (Em u.jW (qJ u.jW i)<p.size)then (i:Int)else qJ u.jW i):=by
        unfold Hid;rw[qJ,c]
       have bx:=OH u.jW i;obtain⟨b,o,l,d,U,o',e,L,H,O⟩:=E.out.view.jW i _ c;obtain⟨rfl,rfl⟩:b=U/\o+i * 3=o':=by simpa using e
       have m2:=(BO.out.cell (p:=(Ad b (o+i * 3+1))) d).trans H;have i1:(0:Int)<=(i:Int):=by omega
       have G6:(i:Int)<(g:Int):=by omega
       generalize qJ u.jW i=D at *;rw[l]at q2;have PD:=jA l;clear c e L H O l d;go_upto_region 36 with fail;go_cut [192] (λs wx=>s=.bool (decide (D<0)||decide (Em u.jW D<p.size))/\∃n,wx=wr.drewN n)
       case first=>
        by_cases R:D<0
        .have h3:decide (D<0)=true:=by simpa using R
         go_quiet (fail);go_wp2_with fail;go_meet;exact⟨by rw[h3];rfl,_,rfl⟩
        .have h3:decide (D<0)=false:=by simpa using R
         obtain⟨p2,C⟩:∃r,u.jW[D.toNat]? =some r:=⟨_,bU (by rw[N.out.2.2];omega)⟩;obtain⟨b2,o2,T,CU,ad,OW,e2,x1,x2,x3⟩:=E.out.view.jW D.toNat _ C;obtain⟨rfl,rfl⟩:b2=ad/\o2+D.toNat * 3=OW:=by simpa using e2
         have zF:b2=b/\o2=o:=by
          rw[PD.out]at T;simp only[bJ,Addr.mk.injEq,and_true]at T;exact⟨T.1.symm,T.2.symm⟩
         have y2:=(BO.out.cell (p:=(Ad b2 (o2+D.toNat * 3+1))) CU).trans x2;rw[zF.1,zF.2]at y2;have az:Em u.jW D=p2.size:=by
          unfold Em;rw[C]
         have i3:(0:Int)<=D:=by omega
         have j3:D<(g:Int):=by omega
         clear C T CU e2 x1 x2 x3 zF;cases h4:decide (p2.size<p.size);all_goals
          go_quiet (fail);go_wp2_with fail;go_meet;exact⟨by rw[h3,az,h4];rfl,_,rfl⟩
       case rest=>
        obtain⟨rfl,nd,rfl⟩:=hcut;cases hc:(decide (D<0)||decide (Em u.jW D<p.size));all_goals
         rw[hc]at aE;go_wp2_with fail;go_roundg gO
         case measure=>omega
         case rel=>exact⟨i+1,by omega,by go_num,by rw[aE.out];rfl,PU.out.trans (lu _ _)⟩
      .have d4:decide ((i:Int)<(g:Int))=false:=by simp;omega
       obtain rfl:i=g:=by omega
       have ae:wr.heap[K]? =some (.cells #[Im z,Im (xM u.kK u.kK.length),Im 0,Im 0,Im 0,Im 0,Im 0,Im 0] 26):=by
        rw[N.out.2.1];exact wR G.out (Below.Jh PU.out)
       have VH:X.grownBy wr (some K):=Dz.out.trans (al7 PU.out);have bx:=OH u.jW i;have bh:Hid (Az u.jW (qJ u.jW u.jW.length)=Az u.jW (qJ u.jW i)):=by unfold Hid;rw[N.out.2.2]
       generalize qJ u.jW i=D at *;go_upto_if 195 with fail;go_cut [] (λwx=>X.grownBy wx (some K)/\wx.heap[K]? =some (.cells #[Im z,Im (xM u.kK u.kK.length),Im (Az u.jW D),Im 0,Im 0,Im 0,Im 0,Im 0] 26))
       case first=>
        have aM:=jA ae;have aR:=jA VH;have f2:wr.frozen? (Ad K 2)=false:=nA ae;have k2:wr.cell? (Ad K 2)=some (Im 0):=jG ae;clear ae VH;by_cases R:D<0
        .have d5:decide ((0:Int)<=D)=false:=by simpa using R
         have bA:Az u.jW D=0:=by unfold Az;rw[jh R]
         go_wp2_with fail;go_meet;exact⟨aR.out,by rw[bA];exact aM.out⟩
        .have d5:decide ((0:Int)<=D)=true:=by simpa using R
         obtain⟨p2,C⟩:∃r,u.jW[D.toNat]? =some r:=⟨_,bU (by rw[N.out.2.2];omega)⟩;obtain⟨b2,o2,T,CU,ad,OW,e2,x1,x2,x3⟩:=E.out.view.jW D.toNat _ C;obtain⟨rfl,rfl⟩:b2=ad/\o2+D.toNat * 3=OW:=by simpa using e2
         have y1:=(BO.out.cell (p:=(Ad b2 (o2+D.toNat * 3))) CU).trans x1;have bo:Hid (Az u.jW D=p2.seq):=by
          unfold Hid Az;rw[jg R,C]
         have i3:(0:Int)<=D:=by omega
         have j3:D<(i:Int):=by omega
         rw[T]at q2;clear C T CU e2 x1 x2 x3;go_wp2_with fail;go_meet;obtain⟨t1,t2⟩:=Lp aR.out aM.out 2 (Im p2.seq) 0;exact⟨t1,by rw[bo.out];exact t2⟩
       case rest=>
        as_aux_lemma=>
        obtain⟨bs,br⟩:=hcut;clear ae VH q2 PU BO G Dz F8 VF;go_wp2_with fail;go_loopg [21] z (λV cn wy=>∃t:Nat,t+V=z/\cn=Im t/\X.grownBy wy (some K)/\wy.heap[K]? =some (.cells #[Im z,Im (xM u.kK u.kK.length),Im (Az u.jW D),Im (Hx.lD (DW u.jU t)),Im 0,Im 0,Im 0,Im 0] 26))
        case atStart=>exact⟨0,by omega,rfl,bs,br⟩
        case round=>
         obtain⟨t,ht,rfl,hX,hR⟩:=hrel;have B:=UQ JA.out (aj _) hX ML.out;have m:=wR E.out.vb B;have q0:wr.cell? (Ad J.heap.size 0)=some (.slice ar z cr):=jG m;have q1:wr.cell? (Ad J.heap.size 1)=some (.slice af j cf):=jG m;have k3:wr.cell? (Ad K 3)=some (Im (Hx.lD (DW u.jU t))):=jG hR;have f3:wr.frozen? (Ad K 3)=false:=nA hR;have VF:¬J.heap.size=K:=by have:=lT E.out.vb;have:=ML.out;omega
         have F8:=jA B;have Dz:=jA hX;have G:=jA hR;clear B hX hR m;by_cases aV:t<z
         .have d6:decide ((t:Int)<(z:Int))=true:=by simp;omega
          obtain⟨gO,VQ⟩:∃Q,gk=Q+1:=⟨gk-1,by omega⟩;obtain⟨r,c⟩:∃r,u.jU[t]? =some r:=⟨_,bU (by rw[N.out.1];exact aV)⟩;have TT:Hid (DW u.jU (t+1)=(DW u.jU t||r.wo)):=by
           unfold Hid DW;rw[fU,c,List.any_append];simp
          obtain⟨b,o,l,d,U,o',e,L,H,O,c4,c5⟩:=E.out.view.jU t _ c;obtain⟨rfl,rfl⟩:b=U/\o+t * 5=o':=by simpa using e
          have m5:=(F8.out.cell (p:=(Ad b (o+t * 5+4))) d).trans c5;have i1:(0:Int)<=(t:Int):=by omega
          have G6:(t:Int)<(z:Int):=by omega
          rw[l]at q0;clear c e L H O c4 c5 l d;cases hl:r.wo;all_goals
           rw[hl]at m5 TT;go_wp2_with fail;go_roundg gO
           case measure=>omega
           case rel=>first
            |exact⟨t+1,by omega,by go_num,Dz.out,by rw[TT.out,iQ];exact G.out⟩
            |exact⟨t+1,by omega,by go_num,(Lp Dz.out G.out 3 (Im 1) 0).1,by rw[TT.out,iE];exact(Lp Dz.out G.out 3 (Im 1) 0).2⟩
         .have d6:decide ((t:Int)<(z:Int))=false:=by simp;omega
          obtain rfl:t=z:=by omega
          have k4:wr.cell? (Ad K 4)=some (Im 0):=jG G.out;have f4:wr.frozen? (Ad K 4)=false:=nA G.out;go_upto_region 46 with(go_at_call 25;refine(avP _ _).mono ?_;rintro e w' ⟨rfl,hw⟩;replace hw:=hw.symm;subst hw);have TY:Hid (oM u (i+j)=I/\(wr.setCell (Ad K 4) (Im (Hx.lD ((j:Int)==0)))).heap[K]? =some (.cells #[Im z0,Im z1,Im z2,Im z3,Im z4,Im z5,Im z6,Im z7] 26)):=by
           obtain⟨ea,e0,e1,e2,e3,e4,e5,e6,e7⟩:=HZ.out;obtain⟨l1,l2,l3⟩:=N.out;refine⟨by rw[ea,l3,l2],(Lp Dz.out G.out 4 (Im (Hx.lD ((j:Int)==0))) 0).2.trans ?_⟩;have et:((j:Int)==0)=decide (j=0):=by
            by_cases h:j=0
            .subst h;rfl
            .rw[dO h,beq_eq_false_iff_ne];omega
           rw[e0,e1,e2,e3,e4,e5,e6,e7,bh.out,l1,l2,et]
           rfl
          have aS:=jA (Lp Dz.out G.out 4 (Im (Hx.lD ((j:Int)==0))) 0).1;obtain⟨Z,PV⟩:∃Z,Hid (wr.setCell (Ad K 4) (Im (Hx.lD ((j:Int)==0)))=Z):=⟨_,rfl⟩;have aU:Hid (X.grownBy Z (some K)):=by unfold Hid;rw[<-PV.out];exact aS.out
          have bm:Hid (Z.heap[K]? =some (.cells #[Im z0,Im z1,Im z2,Im z3,Im z4,Im z5,Im z6,Im z7] 26)):=by unfold Hid;rw[<-PV.out];exact TY.out.2
          have ap:=TY.out.1;have cu:I.length<=32:=by
           rw[<-ap];have:=aah u (i+j);omega
          have TU:=jA (UQ JA.out (aj _) aU.out ML.out);have aK:=jA (aJ.out.1.kept aU.out (je aJ.out.2));rw[PV.out];rw[ap]at aK⊢;clear PV aS TY Dz G F8 q0 q1 k3 f3 k4 f4 VF ap;obtain⟨bG,cB,bH,bI,bK,bL,bM,bN,bO,bP⟩:=abQ (wR E.out.a TU.out);obtain⟨bQ,cC,bR,bS,bV,bW,bX,bY,bZ,b0⟩:=abQ (wR E.out.b TU.out);obtain⟨b5,b6,b7,b8,b9,cc,cd,ce⟩:=akN bm.out;have e8:=λw=>alD w z0 z1 z2 z3 z4 z5 z6 z7;go_wp2_with fail;clear bG bH bI bK bL bM bN bO bP bQ bR bS bV bW bX bY bZ b0 b5 b6 b7 b8 b9 cc cd ce e8;go_loopg [22] I.length (λV co wy=>∃q:Nat,q+V=I.length/\co=Im q/\Z.grownBy wy none)
          case atStart=>exact⟨0,by omega,rfl,aN _ _⟩
          case round=>
           obtain⟨q,hq,rfl,hZ⟩:=hrel;have B:=yw TU.out (Below.Jh hZ);have ca:wr.cell? (Ad w2.heap.size 1)=some (.slice a1 I.length L):=jG (wR E.out.a B);have cb:wr.cell? (Ad w3.heap.size 1)=some (.slice a2 I.length H):=jG (wR E.out.b B);have bp:=jA hZ;by_cases cp:q<I.length
           .have d7:decide ((q:Int)<(I.length:Int))=true:=by simp;omega
            have c:I[q]? =some I[q]:=by simp
            obtain⟨P,ak⟩:=aa1 I q _ c;obtain⟨g1,h1,_,_,ag⟩:=O8 (Dh E.out.ra B) P;obtain⟨g2,h2,_,_,ah⟩:=O8 (Dh E.out.rb B) P;obtain⟨g3,h3,_,_,ai⟩:=O8 (Dh aK.out (Below.Jh hZ)) P;have p1:=ag _ _ P;have p2:=ah _ _ P;have p3:=ai _ _ P;have s1:=ag _ _ ak;have s2:=ah _ _ ak;have s3:=ai _ _ ak;generalize I[q].1=ro at *;generalize I[q].2=sq at *;have i3:(0:Int)<=(q:Int):=by omega
            have j3:(q:Int)<(I.length:Int):=by omega
            obtain⟨Q,bu⟩:∃Q,gk=Q+1:=⟨gk-1,by omega⟩;rw[h1]at ca;rw[h2]at cb;clear B hZ c ag ah ai P ak;subst h3;go_wp2_with fail;go_quiet (fail);go_wp2_with fail;go_roundg Q
            case measure=>omega
            case rel=>exact⟨q+1,by omega,by go_num,bp.out.trans (lu _ _)⟩
           .have d7:decide ((q:Int)<(I.length:Int))=false:=by simp;omega
            have HF:=jA (yw E.out.below B);clear B hZ;go_wp2_with fail;go_ret;exact⟨rfl,HF.out⟩
end
end
end Go.Proofs.YthllhabjfchgiaaGreatDoor
