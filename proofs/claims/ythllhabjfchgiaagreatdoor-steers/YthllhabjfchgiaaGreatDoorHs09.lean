import Derived.Test.YthllhabjfchgiaaGreatDoorHs08
import Derived.Test.YthllhabjfchgiaaGreatDoorHs06
set_option maxRecDepth 100000
set_option maxHeartbeats 8000000
set_option linter.unusedSimpArgs false
namespace Go.Proofs.YthllhabjfchgiaaGreatDoor
open _root_.Go.Proofs.Tryz
section
open Go.RowKit
open Hx (Rd Pk Vw St Mc jK Out)
def Di(v:Vw)(jB:List St)(n:Nat)(fuel x0 x1 x2 x3 x4 x5 x6 x7:Int):Out:=
 if vJ v=true then Hx.runs v jB [x0,x1,x2,x3,x4,x5,x6,x7] fuel.toNat 0 (sN x0 x1 x2 x3 x4 x5 x6 x7 n)else ⟨3,[x0,x1,x2,x3,x4,x5,x6,x7],[]⟩
theorem Lj{w:jk}{b f:Nat}{e:jo}{a:Nat}{u:jm}{n:Nat}{xs:List jm}(h:w.ownsRow b e a u n xs)(m:f<=b):w.ownsRow f e a u n xs:=by
 refine⟨h.1,?_⟩;rcases h.2 with h|⟨g,c,d,i,k,j⟩
 .exact jf h
 .exact je ⟨g,c,d,i,by omega,j⟩
theorem agz(st:Int)(va:jm)(l:List Int):vG st va l=vG st va [l.getD 0 0,l.getD 1 0,l.getD 2 0,l.getD 3 0,l.getD 4 0,l.getD 5 0,l.getD 6 0,l.getD 7 0]:=by
 simp[vG]
set_option maxRecDepth 1000000 in
theorem asD(w:jk)(cb co sb so cap n:Nat)(jB:List St)(v:Vw)(U T S:Option Addr)(Y cr X cf V Z:Nat)(d f h q t u y z fuel:Int)
 (ab:Hx.Fits jB n)(h8:8<=n)(hn:n<=100000)(hc:uz w.heap.size w cb co sb so cap jB)(am:w.cell? (Ad cb (co+1))=some (Im n))
 (hv:uV w.heap.size w U T S Y X V v)(hT:wO w)(aE:1<w.heap.size)(hx:∀x∈[d,f,h,q,t,u,y,z],jK x)(ax:fuel<=9223372036854775807):
 Calls prog 16 #[Pt cb co,.agg #[.slice U Y cr,.slice T X cf,.slice S V Z],.agg #[Im d,Im f,Im h,Im q,Im t,Im u,Im y,Im z],Im fuel] w λe Q=>
  ∃J,e=.returned (vG (Di v jB n fuel d f h q t u y z).status J (Di v jB n fuel d f h q t u y z).jF)/\
   Q.ownsRow w.heap.size 76 2 J (Di v jB n fuel d f h q t u y z).jP.length (nT (Di v jB n fuel d f h q t u y z).jP)/\Below w.heap.size w Q:=by
 generalize ho:Di v jB n fuel d f h q t u y z=o;generalize hW:boxes w U T S Y cr X cf V Z d f h q t u y z=W;have an:W.heap.size=w.heap.size+1+1+1:=by rw[<-hW];exact akE ..
 have ad:w.grownBy W none:=by rw[<-hW];exact akB ..
 have GZ:∀k,W.cell? (Ad w.heap.size k)=#[Value.slice U Y cr,.slice T X cf,.slice S V Z][k]? :=λk=>by rw[<-hW];exact akF ..
 have Fb:JK W w.heap.size d f h q t u y z:=by rw[<-hW];exact akC w U T S Y cr X cf V Z d f h q t u y z
 have ai:xI W w.heap.size:=by rw[<-hW];exact akD ..
 have F:∀x:Addr,x.block<w.heap.size->W.cell? x=w.cell? x:=λx hx=>bQ (ad.block _ hx (by simp));have N:=(dK _ _).grown ad (aj _) (by simp);have ao:uV W.heap.size W U T S Y X V v:=by
  have:=hv.keep F;exact⟨λi r hr=>by obtain⟨b,o,e,E,hp⟩:=this.jU i r hr;exact⟨b,o,e,by omega,hp⟩,λi r hr=>by obtain⟨b,o,e,E,hp⟩:=this.kK i r hr;exact⟨b,o,e,by omega,hp⟩,λi r hr=>by obtain⟨b,o,e,E,hp⟩:=this.jW i r hr;exact⟨b,o,e,by omega,hp⟩,this.KE,this.KD,this.KC,this.yX⟩
 have av:wO W:=λj hj=>by rw[F _ (by show 1<_;omega)];exact hT j hj
 have VL:=hc.keep N;have aw:uz W.heap.size W cb co sb so cap jB:=⟨by have:=hc.IC;omega,by have:=hc.Hu;omega,VL.slice,VL.step⟩;have aH:W.cell? (Ad cb (co+1))=some (Im n):=by rw[F _ hc.IC];exact am
 have Ul:Hid (∀(I:Act)(R:jk)(st:Int)(J:jm)(y0 y1 y2 y3 y4 y5 y6 y7:Int)(jP:List (Int×Int)),Below W.heap.size W R->xI R w.heap.size->R.ownsRow W.heap.size 76 2 J jP.length (nT jP)->(∃a n c,J=.slice a n c)->
  I.tmps.getD 8 undef=Pt (w.heap.size+1+1) 0->I.defers=[]->o.status=st->vG st J o.jF=vG st J [y0,y1,y2,y3,y4,y5,y6,y7]->o.jP=jP->
  bodyPost prog Tryz.f16 (λe Q=>∃J,e=.returned (vG o.status J o.jF)/\Q.ownsRow w.heap.size 76 2 J o.jP.length (nT o.jP)/\Below w.heap.size w Q) .ret I (FC R w.heap.size st J y0 y1 y2 y3 y4 y5 y6 y7)):=by
  rintro I R st J y0 y1 y2 y3 y4 y5 y6 y7 jP A az ah ⟨JM,nn,cc,rfl⟩ ht hd rfl Oi rfl;refine cu (v:=vG o.status (.slice JM nn cc) [y0,y1,y2,y3,y4,y5,y6,y7]) (arH R w.heap.size az o.status JM nn cc y0 y1 y2 y3 y4 y5 y6 y7 I.tmps ht) hd ⟨.slice JM nn cc,by rw[Oi],?_,?_⟩
  .have D:=ah.kept (agp R w.heap.size o.status (.slice JM nn cc) y0 y1 y2 y3 y4 y5 y6 y7) (by
    cases E:(Value.slice JM nn cc).ownBlock with
    |none=>exact jf rfl
    |some g=>
     right;have:=(ah.lt g E).1;simp;omega)
   exact Lj D (by omega)
  .refine(N.trans (A.mono (by omega))).trans ((dK _ _).grown (agp R w.heap.size o.status (.slice JM nn cc) y0 y1 y2 y3 y4 y5 y6 y7) ?_ ?_)
   .have:=A.size;omega
   .intro k hk;cases hk;omega
 have e3:w.heap.size+1+1<W.heap.size:=by omega
 have xC:Hid (∀k,Calls prog 49 #[.agg #[.slice U Y cr,.slice T X cf,.slice S V Z],.agg #[Im d,Im f,Im h,Im q,Im t,Im u,Im y,Im z],Im n] (W.drewN k) λe Q=>
  e=.returned (Pt (W.heap.size+1+1+1) 0)/\Below W.heap.size W Q/\
  (Good v->kP W.heap.size (W.heap.size+4) Q (W.heap.size+1+1+1) (W.heap.size+1+1) v (sN d f h q t u y z n))):=λk=>by
  refine(apP U T S Y cr X cf V Z d f h q t u y z n (W.drewN k) hn h8).mono ?_;rintro e Q ⟨D,O,P⟩;refine⟨D,(below_drewN (dK _ _) k).trans O,λG=>P W.heap.size v (by omega) (aj _) (λj hj=>av j hj) (ao.keep (λ_ _=>rfl)) G hx⟩
 have b0:=GZ 0;have b1:=GZ 1;have b2:=GZ 2;simp only[List.getElem?_toArray,iY,dw]at b0 b1 b2;have g0:=Fb 0 (by omega);have g1:=Fb 1 (by omega);have g2:=Fb 2 (by omega);have g3:=Fb 3 (by omega);have g4:=Fb 4 (by omega);have g5:=Fb 5 (by omega);have g6:=Fb 6 (by omega);have g7:=Fb 7 (by omega);simp only[iR,iT]at g0 g1 g2 g3 g4 g5 g6 g7;have HW:=jA hW;have aF:=jA an;have HO:=jA ho;clear hW ad GZ F hv hc am hT VL an ho;generalize aB:Value.agg #[.slice U Y cr,.slice T X cf,.slice S V Z]=aJ;generalize aA:Value.agg #[Im d,Im f,Im h,Im q,Im t,Im u,Im y,Im z]=aI;subst aB aA;go_enter func16,ntmps16;go_wp2_with fail;rw[show((w.alloc (Obj.cells #[.slice U Y cr,.slice T X cf,.slice S V Z] 25)).alloc
  (Obj.cells #[Im d,Im f,Im h,Im q,Im t,Im u,Im y,Im z] 26)).alloc
  (Obj.cells #[.int .u8 0,Nl,Im 0,Im 0,Im 0,Im 0,Im 0,Im 0,Im 0,Im 0] 35)=W from HW.out]
 refine avM (λl=>.seq .skip (zG Tryz.f16 l)) (ajk W.heap.size (W.heap.size+4) (W.heap.size+1+1+1) (W.heap.size+1+1) v cb co sb so cap jB n w.heap.size [d,f,h,q,t,u,y,z] o (.agg #[.slice U Y cr,.slice T X cf,.slice S V Z]) (.agg #[Im d,Im f,Im h,Im q,Im t,Im u,Im y,Im z]) W) asC ?hf ?first ?pass
 case hf=>
  intro l a1 R hJ;have hl:l=0\/l=1:=by
   rcases l with _|_|l
   .exact jf rfl
   .exact je rfl
   .exact hJ.elim
  clear hJ;rcases hl with rfl|rfl
  .show _=_
   kernel_rfl
  .show _=_
   kernel_rfl
 case pass=>
  intro l a1 R hJ;rcases l with _|_|l
  .obtain⟨st,ha,ak,hr,E⟩:=hJ;refine wp_seq (wp_skip ?_);refine asR a1 ha (Fb.keep E (by omega)) hr _ ?_;intro I ht hd;have:=Ul.out I R st (Nl) d f h q t u y z [] E hr (fK _ _ _ _) ⟨_,_,_,rfl⟩ ht hd (by rw[ak]) (by rw[ak]) (by rw[ak]);exact this
  .obtain⟨au,k1,m1,ha,hg,E⟩:=hJ;refine wp_seq (wp_skip ?_);refine agK ab h8 e3 a1 ha hg _ ?_ ?_ ?_
   .intro I Q fuel' k' m' D O P h4 h5;refine⟨⟨fuel',k',m',D,O,E.trans P⟩,?_⟩;show 1+(intOf (I.tmps.getD 3 undef)).toNat<1+(intOf (a1.tmps.getD 3 undef)).toNat;rw[abj D,abj ha];simp only[intOf];omega
   .intro I Q st D O P h4;refine⟨⟨st,D,O,P,E.trans h4⟩,?_⟩;show 0<1+(intOf (a1.tmps.getD 3 undef)).toNat;omega
   .intro I w2 J D O P h4 h5 h6 h7;have:=Ul.out I w2 0 J _ _ _ _ _ _ _ _ m1.jP (E.trans h4) h5 (Lj O (by omega)) P h6 h7 (by rw[D]) (by rw[D];exact agz _ _ _) (by rw[D]);exact this
  .exact hJ.elim
 case first=>
  go_wp2_with fail;refine nO 6 (by kernel_rfl) (by kernel_rfl) ?_;simp only[aC,aO,aG,aQ];repeat (go_big_quiet_step (fail))
  refine bF ?_;intro _ aD;obtain⟨n3,ap⟩:=aD;subst ap;go_wp2_with fail;refine(xC.out n3).mono ?_;rintro e R ⟨rfl,A,ag⟩;have v0:=(A.cell (p:=(Ad w.heap.size 0)) (by show w.heap.size<_;omega)).trans b0;have v1:=(A.cell (p:=(Ad w.heap.size 1)) (by show w.heap.size<_;omega)).trans b1;have v2:=(A.cell (p:=(Ad w.heap.size 2)) (by show w.heap.size<_;omega)).trans b2;have HV:=jA (anO cr cf Z (ao.keep (λx hx=>A.cell hx)) A.size);have ae:=jA A;have aq:=jA ag;clear A ag;go_wp2_with fail;refine(HV.out).mono ?_;rintro e w2 ⟨rfl,al⟩;have K:=jA al;clear al;cases ac:vJ v with
  |false=>
   have HF:Hid (o=⟨3,[d,f,h,q,t,u,y,z],[]⟩):=by
    show o=_;rw[<-HO.out];simp[Di,ac]
   clear ac;go_wp2;go_step3;have E:=ae.out.trans (K.out.mono ae.out.size);refine⟨3,?_,HF.out,ai.keep E e3,E⟩;unfold Ey
   (repeat apply Exists.intro)
   rfl
  |true=>
   have HF:Hid (Hx.runs v jB [d,f,h,q,t,u,y,z] fuel.toNat 0 (sN d f h q t u y z n)=o):=by
    show _=o;rw[<-HO.out];simp[Di,ac]
   have G:=aae ac;have HG:=jA G;clear ac G;go_wp2;go_step3;rename_i hK;refine hK _ _ ?_;have E:=ae.out.trans (K.out.mono ae.out.size);have ag:=aq.out HG.out;have hg:R.grownBy w2 none:=⟨K.out.os,K.out.tape,K.out.output,K.out.size,λk hk _=>K.out.block k hk⟩;have ay:=ag.grow hg;refine agK (B:=W.heap.size) (C:=W.heap.size+4) (M:=W.heap.size+1+1+1) (SB:=W.heap.size+1+1) (v:=v) (jB:=jB) (H:=w.heap.size) (cb:=cb) (co:=co) (sb:=sb) (so:=so) (cap:=cap) (fuel:=fuel) (k:=0) (m:=sN d f h q t u y z n) (o:=o) (jF:=[d,f,h,q,t,u,y,z]) (vv:=.agg #[.slice U Y cr,.slice T X cf,.slice S V Z]) (rv:=.agg #[Im d,Im f,Im h,Im q,Im t,Im u,Im y,Im z]) ab h8 e3 _ ?_ ?_ _ ?_ ?_ ?_
   .unfold nG
    (repeat apply Exists.intro)
    rfl
   .exact⟨ay,aw.keep E,ai.keep E e3,by simp[sN];omega,by simp[sN],by omega,by have:=ab.pos;omega,ax,HF.out⟩
   .intro I Q fuel' k' m' D O P _ _;exact⟨fuel',k',m',D,O,E.trans P⟩
   .intro I Q st D O P h4;exact⟨st,D,O,P,E.trans h4⟩
   .intro I w3 J D O P h4 h5 h6 h7;have:=Ul.out I w3 0 J _ _ _ _ _ _ _ _ (sN d f h q t u y z n).jP (E.trans h4) h5 (Lj O (by omega)) P h6 h7 (by rw[D]) (by rw[D];exact agz _ _ _) (by rw[D]);exact this
end
namespace Hx
open Go.RowKit
structure Ih(v:Vw)(jP:List (Int×Int)):Prop where
 each:∀a∈jP,(∃r∈v.jU,r.id=a.1)/\((∃p∈v.kK,p.seq=a.2)\/(∃p∈v.jW,p.seq=a.2))
 len:jP.length<=256
def Uu(v:Vw)(jF:List Int)(o:Out):Prop:=(o.status=0/\Ih v o.jP)\/((o.status=1\/o.status=2)/\o.jF=jF/\o.jP=[])
theorem ajx(v:Vw):Ih v []:=⟨λ_ h=>(dU h).elim,by simp⟩
theorem akX(s:St)(b:Bool)(m:Mc):(choose s b m).jP=m.jP:=by
 unfold choose;split<;>rfl
theorem avE(v:Vw)(s:St)(m:Mc):(work v s m).jP=m.jP:=by
 unfold work;repeat' split
 all_goals first|rfl|exact akX _ _ _
theorem Yy(s:St)(k:Int)(m:Mc):(kR s k m).1.jP=m.jP:=by
 unfold kR;split<;>rfl
theorem SC{v:Vw}{i j:Int}{m c:Mc}(h:push v i j m=some c)(b:Ih v m.jP):Ih v c.jP:=by
 unfold push at h;split at h
 .rename_i r p e d;split at h
  .cases h
  .rename_i f;cases h;refine⟨λa h=>?_,?_⟩
   .rcases List.mem_append.1 h with h|h
    .exact b.each a h
    .rw[cO]at h;subst h;refine⟨⟨r,Vw.aeV e,rfl⟩,?_⟩;rcases Vw.aeU d with h|h
     .exact jf ⟨p,h,rfl⟩
     .exact je ⟨p,h,rfl⟩
   .have:=b.len;simp only[aA,eG];omega
 .cases h;exact b
theorem aus{v:Vw}{S:List St}{jF:List Int}{k:Nat}{s:St}{m:Mc}(e:Ih v m.jP):
 (∀o,step v S jF k s m=.inl o->Uu v jF o)/\(∀d c,step v S jF k s m=.inr (d,c)->Ih v c.jP):=by
 unfold step;by_cases f:s.op=1
 .simp only[jh f];exact⟨λo h=>by cases h;exact jf ⟨rfl,e⟩,λd c h=>by cases h⟩
 by_cases g:s.op=2
 .simp only[jg f,jh g];exact⟨λo h=>(by cases h),λd c h=>by cases h;exact e⟩
 by_cases i:s.op=3
 .simp only[jg f,jg g,jh i];exact⟨λo h=>(by cases h),λd c h=>by cases h;exact e⟩
 by_cases j:s.op=4
 .simp only[jg f,jg g,jg i,jh j];exact⟨λo h=>(by cases h),λd c h=>by cases h;rw[Yy];exact e⟩
 by_cases n:s.op=5
 .simp only[jg f,jg g,jg i,jg j,jh n];split
  .split
   .exact⟨λo h=>(by cases h),λd c h=>by cases h;rw[Yy];exact e⟩
   .exact⟨λo h=>by cases h;exact je ⟨je rfl,rfl,rfl⟩,λd c h=>by cases h⟩
  .exact⟨λo h=>(by cases h),λd c h=>by cases h;exact e⟩
 by_cases p:s.op=0
 .simp only[jg f,jg g,jg i,jg j,jg n,jh p];split
  .exact⟨λo h=>(by cases h),λd c h=>by cases h;rw[Yy];exact e⟩
  .exact⟨λo h=>by cases h;exact je ⟨je rfl,rfl,rfl⟩,λd c h=>by cases h⟩
 by_cases q:s.op=36
 .simp only[jg f,jg g,jg i,jg j,jg n,jg p,jh q];cases r:push v (m.get s.a) (m.get s.b) m with
  |none=>exact⟨λo h=>by cases h;exact je ⟨jf rfl,rfl,rfl⟩,λd c h=>by cases h⟩
  |some m1=>exact⟨λo h=>(by cases h),λd c h=>by cases h;exact SC r e⟩
 .simp only[jg f,jg g,jg i,jg j,jg n,jg p,jg q];exact⟨λo h=>(by cases h),λd c h=>by cases h;rw[avE];exact e⟩
theorem agM(v:Vw)(S:List St)(jF:List Int):∀(f:Nat)(k:Int)(m:Mc),Ih v m.jP->Uu v jF (runs v S jF f k m)
 |0,_,_,_=>je ⟨je rfl,rfl,rfl⟩
 |f+1,k,m,ha=>by
  simp only[runs];cases g:S[k.toNat]?with
  |none=>exact je ⟨je rfl,rfl,rfl⟩
  |some s=>
   obtain⟨d,e⟩:=aus (v:=v) (S:=S) (jF:=jF) (k:=k.toNat) (s:=s) ha;simp only;cases a:step v S jF k.toNat s m with
   |inl o=>exact d o a
   |inr p=>
    obtain⟨b,c⟩:=p;exact agM v S jF f b c (e b c a)
end Hx
section
open Go.RowKit
open Hx (St Bk Ls jK Inv)
attribute [local go_sem ↓] Go.wp_at_zero Go.wp_at_succ
attribute [local go_sem] kN
section
variable {B:Nat}{w:jk}{L:Nat}{s:ji}{l:Ls}{vs vb vl:jm}
def zN(B:Nat)(w:jk)(L:Nat)(s:ji)(vs vb vl:jm)(l':Ls)(e:Ending)(w':jk):Prop:=
 e=.returned (.tuple #[])/\∃vs' kL lq,jT B w' L s l' vs' kL lq/\jV L w vs vb vl w' vs' kL lq
def AA(st:St):jm:=.agg #[.int .u8 st.op,Im st.a,Im st.b,Im st.c,Im st.d,Im st.depth,Im st.kD]
section
theorem ajt(h:jT B w L s l vs vb vl)(hi:Inv l)(p:l.jB.length<=100000)(st:St)(m:st.op=2):Calls prog 113 #[Pt L 0,AA st] w (zN B w L s vs vb vl (lH l st)):=by
 obtain⟨g,o⟩:=hi.jH;refine(afF h g (by omega) (by omega) st.op st.a st.b st.c st.d st.depth st.kD).mono ?_;rintro e q ⟨i,f,n,j,k⟩;refine⟨i,f,n,vl,?_,k⟩;rw[show lH l st=xR l st by simp[lH,m]];exact j
theorem ajs(h:jT B w L s l vs vb vl)(hi:Inv l)(u:l.jB.length<=100000)(st:St)(m:st.op=4):Calls prog 114 #[Pt L 0,AA st] w (zN B w L s vs vb vl (lH l st)):=by
 obtain⟨n,r⟩:=hi.jH;have t:=hi.eight;by_cases j:l.jY.length=8
 .refine(aqH h j st.op st.a st.b st.c st.d st.depth st.kD).mono ?_;rintro e q ⟨f,g,i⟩;refine⟨f,vs,vb,vl,?_,i⟩;rw[show lH l st={l with bad:=true} by simp[lH,m,j]];exact g
 .refine(aqI h n (by omega) (by omega) (by omega) st.op st.a st.b st.c st.d st.depth st.kD).mono ?_;rintro e q ⟨f,k,o,p,g,i⟩;refine⟨f,k,o,p,?_,i⟩;rw[show lH l st=Ja l st by simp[lH,m,j]];exact g
theorem ajq(h:jT B w L s l vs vb vl)(hi:Inv l)(P:l.jB.length<=100000)(st:St)(q:st.op=3):Calls prog 115 #[Pt L 0,AA st] w (zN B w L s vs vb vl (lH l st)):=by
 obtain⟨C,J⟩:=hi.jH;have I:=List.length_pos_iff.2 C;by_cases n:l.jH.length=1
 .refine(alc h n st.op st.a st.b st.c st.d st.depth st.kD).mono ?_;rintro e x ⟨g,i,j⟩;refine⟨g,vs,vb,vl,?_,j⟩;rw[show lH l st={l with bad:=true} by simp[lH,q,n]];exact i
 have k:2<=l.jH.length:=by omega
 have u:l.jH.length<=900000:=by omega
 have A:l.jB.length<=900000:=by omega
 have E:l.jY.length<=900000:=by have:=hi.eight;omega
 obtain⟨z,K,b,e⟩:=hi.split2 n;have y:=hi.chain;rw[e,Hx.Aw]at y;obtain⟨o,t,D,M,p,N,O⟩:=y;have F:=Hx.TI e;have f:l.top.opener=o:=by rw[F,D]
 by_cases m:0<l.top.other
 .refine(ald h k u m st.op st.a st.b st.c st.d st.depth st.kD).mono ?_;rintro e x ⟨g,i,j⟩;refine⟨g,vs,vb,vl,?_,j⟩;rw[show lH l st={l with bad:=true} by simp[lH,q,m]];exact i
 by_cases r:t.op=2
 .refine(ala h k u A m o t p f r st.op st.a st.b st.c st.d st.depth st.kD).mono ?_;rintro e x ⟨g,v,G,H,i,j⟩;refine⟨g,v,G,H,?_,j⟩;rw[show lH l st=ES l st o t by simp[lH,q,n,m,f,p,r]];exact i
 .refine(ale h k u m o t p f r st.op st.a st.b st.c st.d st.depth st.kD).mono ?_;rintro e x ⟨g,i,j⟩;refine⟨g,vs,vb,vl,?_,j⟩;rw[show lH l st={l with bad:=true} by simp[lH,q,n,m,f,p,r]];exact i
theorem ajr(h:jT B w L s l vs vb vl)(hi:Inv l)(hl:l.jB.length<=100000)(st:St)(C:st.op=0):Calls prog 116 #[Pt L 0,AA st] w (zN B w L s vs vb vl (lH l st)):=by
 obtain⟨T,W⟩:=hi.jH;have V:=List.length_pos_iff.2 T;have h8:=hi.eight;by_cases y:l.jH.length=1
 .refine(alx h y (by omega) st.op st.a st.b st.c st.d st.depth st.kD).mono ?_;rintro e K ⟨i,f,q,r,j,k⟩;refine⟨i,f,q,r,?_,k⟩;rw[show lH l st=Ba l by simp[lH,C,y]];exact j
 have m:2<=l.jH.length:=by omega
 have D:l.jH.length<=900000:=by omega
 have R:l.jB.length<=900000:=by omega
 have F:l.jY.length<=900000:=by have:=hi.eight;omega
 obtain⟨Q,X,b,e⟩:=hi.split2 y;have P:=hi.chain;rw[e,Hx.Aw]at P;obtain⟨o,z,U,Y,v,O,Z⟩:=P;have H:=Hx.TI e;have g:l.top.opener=o:=by rw[H,U]
 by_cases p:z.op=4
 .have G:=hi.jY;rcases O with⟨u,A,S,M,_⟩|⟨u,_⟩|⟨u,_⟩
  .have E:l.jY=((Hx.kU l.jB o).reverse.map Int.ofNat)++[(o:Int)]:=by rw[G,M];simp
   refine(alA h m D o z v g p _ _ E F R st.op st.a st.b st.c st.d st.depth st.kD).mono ?_;rintro e K ⟨i,f,q,r,j,k⟩;refine⟨i,f,q,r,?_,k⟩;rw[show lH l st=Bc l st o z by simp[lH,C,y,g,v,p]];exact j
  .omega
  .omega
 .rcases O with⟨u,_⟩|⟨u,A,_⟩|⟨u,x,t,A,S,M,N,_⟩
  .exact jl u p
  .have J:¬0<l.top.other:=by rw[H,A];omega
   refine(aly h m D o z v g p J st.op st.a st.b st.c st.d st.depth st.kD).mono ?_;rintro e K ⟨i,f,q,r,j,k⟩;refine⟨i,f,q,r,?_,k⟩;rw[show lH l st=uf l o z l.jH.dropLast l.top by simp[lH,C,y,g,v,p,J]];exact j
  .have n:l.top.other=x:=by rw[H,A]
   have J:0<l.top.other:=by rw[n];omega
   refine(alz h m D o z v g p x t N (by omega) n st.op st.a st.b st.c st.d st.depth st.kD).mono ?_;rintro e K ⟨i,f,q,r,j,k⟩;refine⟨i,f,q,r,?_,k⟩;have I:0<x:=by omega
   rw[show lH l st=uf l x t l.jH.dropLast l.top by simp[lH,C,y,g,v,p,n,I,N]];exact j
theorem aju(h:jT B w L s l vs vb vl)(hi:Inv l)(t:l.jB.length<=100000)(st:St)(n:st.op=5):Calls prog 117 #[Pt L 0,AA st] w (zN B w L s vs vb vl (lH l st)):=by
 obtain⟨o,q⟩:=hi.jH;have r:=hi.eight;rcases List.eq_nil_or_concat l.jY with f|⟨g,x,f⟩
 .refine(atC h f st.op st.a st.b st.c st.d st.depth st.kD).mono ?_;rintro e p ⟨i,j,k⟩;refine⟨i,vs,vb,vl,?_,k⟩;rw[show lH l st={l with bad:=true} by simp[lH,n,f,Jr]];exact j
 .rw[List.concat_eq_append]at f;refine(atE h o (by omega) (by omega) (by omega) g x f st.op st.a st.b st.c st.d st.depth st.kD).mono ?_;rintro e p ⟨i,m,j,k⟩;refine⟨i,m,vb,vl,?_,k⟩;rw[show lH l st=mP l ⟨st.op,st.a,st.b,st.c,st.d,st.depth,x⟩ by simp[lH,n,f,Jr]];exact j
theorem ajp(h:jT B w L s l vs vb vl)(hi:Inv l)(t:l.jB.length<=100000)(st:St)(m:¬st.op=0)(n:¬st.op=2)(o:¬st.op=3)(p:¬st.op=4)(q:¬st.op=5):Calls prog 118 #[Pt L 0,AA st] w (zN B w L s vs vb vl (lH l st)):=by
 obtain⟨g,r⟩:=hi.jH;refine(JQ h g (by omega) (by omega) st.op st.a st.b st.c st.d st.depth st.kD).mono ?_;rintro e u ⟨i,f,j,k⟩;refine⟨i,f,vb,vl,?_,k⟩;rw[show lH l st=mP l st by simp[lH,m,n,o,p,q]];exact j
end
end
section
variable {B:Nat}{w:jk}{L:Nat}{s:ji}{l:Ls}{vs vb vl:jm}
def MW(B:Nat)(w:jk)(L:Nat)(s:ji)(vs vb vl:jm)(Q:Ls->Prop)(e:Ending)(w':jk):Prop:=
 e=.returned (.tuple #[])/\∃l' vs' kL lq,jT B w' L s l' vs' kL lq/\jV L w vs vb vl w' vs' kL lq/\Q l'
theorem Wu(f:Hid (Calls prog 112 #[Pt L 0] w λe h=>∃b i j k m n,jT B h L s b vs vb vl/\jV L w vs vb vl h vs vb vl/\e=.returned (.tuple #[.agg #[.int .u8 i,Im j,Im k,Im m,Im n,Im 0,Im 0],.bool false]))):
 Calls prog 72 #[Pt L 0] w (MW B w L s vs vb vl λb=>b.bad=true):=by
 go_enter func72,ntmps72;go_wp2_with fail;refine f.out.mono ?_;rintro e c ⟨b,i,j,k,m,n,a,g,rfl⟩;have p:=a.c7;have q:=a.fr 7;have r:=a.lt;have t:¬L=c.heap.size:=by omega
 have d:Hid (∀o,jT B ((c.setCell (Ad L 7) (.bool true)).alloc o) L s {b with bad:=true} vs vb vl/\jV L w vs vb vl ((c.setCell (Ad L 7) (.bool true)).alloc o) vs vb vl):=λo=>
  ⟨a.Jm.alloc o,g.trans ((jV.own L c vs vb vl 7 _).trans (jV.grow L _ _ _ _ (ah _ o none)))⟩
 clear a g f;go_wp2_with fail;go_end0;exact⟨rfl,_,_,_,_,(d.out _).1,(d.out _).2,rfl⟩
theorem anF(m:Ls)(hi:Inv m)(x:m.jB.length<=100000)(st:St)(G:st.depth=0)(H:st.kD=0)
 (p:Hid (Calls prog 112 #[Pt L 0] w λe h=>jT B h L s m vs vb vl/\jV L w vs vb vl h vs vb vl/\e=.returned (.tuple #[AA st,.bool true]))):
 Calls prog 72 #[Pt L 0] w (MW B w L s vs vb vl λz=>z=lH m st):=by
 obtain⟨q,a,b,c,d,N,t⟩:=st;simp only at G H;subst G;subst H;have n:Hid (∀i o e h,jT B i L s m vs vb vl->jV L w vs vb vl i vs vb vl->zN B (i.alloc o) L s vs vb vl (lH m ⟨q,a,b,c,d,0,0⟩) e h->MW B w L s vs vb vl (λz=>z=lH m ⟨q,a,b,c,d,0,0⟩) e h):=by
  rintro i o e h g j ⟨I,M,T,U,J,K⟩;exact⟨I,_,_,_,_,J,j.trans ((jV.grow L i _ _ _ (ah _ o none)).trans K),rfl⟩
 by_cases C:q=2
 .subst C;go_enter func72,ntmps72;go_wp2_with fail;refine p.out.mono ?_;rintro e i ⟨g,j,rfl⟩;have r:=jA (λo=>ajt (g.alloc o) hi x ⟨2,a,b,c,d,0,0⟩ rfl);have u:=jA (λo e h (f:zN B (i.alloc o) L s vs vb vl (lH m ⟨2,a,b,c,d,0,0⟩) e h)=>n.out i o e h g j f);clear g j p hi n;simp only[AA];go_wp2_with fail;refine(r.out _).mono ?_;intro e y f;have k:=u.out _ _ _ f;obtain⟨rfl,_⟩:=f;have v:=jA k;clear k;go_wp2_with fail;go_end0;exact v.out
 by_cases E:q=4
 .subst E;go_enter func72,ntmps72;go_wp2_with fail;refine p.out.mono ?_;rintro e i ⟨g,j,rfl⟩;have r:=jA (λo=>ajs (g.alloc o) hi x ⟨4,a,b,c,d,0,0⟩ rfl);have u:=jA (λo e h (f:zN B (i.alloc o) L s vs vb vl (lH m ⟨4,a,b,c,d,0,0⟩) e h)=>n.out i o e h g j f);clear g j p hi n;simp only[AA];go_wp2_with fail;refine(r.out _).mono ?_;intro e y f;have k:=u.out _ _ _ f;obtain⟨rfl,_⟩:=f;have v:=jA k;clear k;go_wp2_with fail;go_end0;exact v.out
 by_cases D:q=3
 .subst D;go_enter func72,ntmps72;go_wp2_with fail;refine p.out.mono ?_;rintro e i ⟨g,j,rfl⟩;have r:=jA (λo=>ajq (g.alloc o) hi x ⟨3,a,b,c,d,0,0⟩ rfl);have u:=jA (λo e h (f:zN B (i.alloc o) L s vs vb vl (lH m ⟨3,a,b,c,d,0,0⟩) e h)=>n.out i o e h g j f);clear g j p hi n;simp only[AA];go_wp2_with fail;refine(r.out _).mono ?_;intro e y f;have k:=u.out _ _ _ f;obtain⟨rfl,_⟩:=f;have v:=jA k;clear k;go_wp2_with fail;go_end0;exact v.out
 by_cases A:q=0
 .subst A;go_enter func72,ntmps72;go_wp2_with fail;refine p.out.mono ?_;rintro e i ⟨g,j,rfl⟩;have r:=jA (λo=>ajr (g.alloc o) hi x ⟨0,a,b,c,d,0,0⟩ rfl);have u:=jA (λo e h (f:zN B (i.alloc o) L s vs vb vl (lH m ⟨0,a,b,c,d,0,0⟩) e h)=>n.out i o e h g j f);clear g j p hi n;simp only[AA];go_wp2_with fail;refine(r.out _).mono ?_;intro e y f;have k:=u.out _ _ _ f;obtain⟨rfl,_⟩:=f;have v:=jA k;clear k;go_wp2_with fail;go_end0;exact v.out
 by_cases F:q=5
 .subst F;go_enter func72,ntmps72;go_wp2_with fail;refine p.out.mono ?_;rintro e i ⟨g,j,rfl⟩;have r:=jA (λo=>aju (g.alloc o) hi x ⟨5,a,b,c,d,0,0⟩ rfl);have u:=jA (λo e h (f:zN B (i.alloc o) L s vs vb vl (lH m ⟨5,a,b,c,d,0,0⟩) e h)=>n.out i o e h g j f);clear g j p hi n;simp only[AA];go_wp2_with fail;refine(r.out _).mono ?_;intro e y f;have k:=u.out _ _ _ f;obtain⟨rfl,_⟩:=f;have v:=jA k;clear k;go_wp2_with fail;go_end0;exact v.out
 have O:(q==0)=false:=by simpa using A
 have P:(q==2)=false:=by simpa using C
 have Q:(q==3)=false:=by simpa using D
 have R:(q==4)=false:=by simpa using E
 have S:(q==5)=false:=by simpa using F
 go_enter func72,ntmps72;go_wp2_with fail;refine p.out.mono ?_;rintro e i ⟨g,j,rfl⟩;have r:=jA (λo=>ajp (g.alloc o) hi x ⟨q,a,b,c,d,0,0⟩ A C D E F);have u:=jA (λo e h (f:zN B (i.alloc o) L s vs vb vl (lH m ⟨q,a,b,c,d,0,0⟩) e h)=>n.out i o e h g j f);clear g j p hi n;simp only[AA];go_wp2_with fail;refine(r.out _).mono ?_;intro e y f;have k:=u.out _ _ _ f;obtain⟨rfl,_⟩:=f;have v:=jA k;clear k;go_wp2_with fail;go_end0;exact v.out
def FW(bs:List UInt8)(l l':Ls):Prop:=match xW bs l with
 |none=>l'.bad=true
 |some (st,l1)=>l'=lH l1 st
theorem anH(h:jT B w L s l vs vb vl)(hi:Inv l)(p:Nat)(D:l.pos=p)(E:p<=s.size)(F:s.size<=100000)(J:l.jB.length<=p):
 Calls prog 72 #[Pt L 0] w (MW B w L s vs vb vl λg=>FW s.data.toList l g):=by
 have y:s.data.toList.length=s.size:=by simp
 by_cases I:p=s.size
 .have d:xW s.data.toList l=none:=by
   unfold xW;rw[bV (by omega)]
  simp only[FW,d];refine Wu ((ar6 h (by omega)).mono ?_);rintro e v ⟨rfl,x⟩;exact⟨l,_,_,_,_,_,h.grow x,jV.grow L w vs vb vl x,rfl⟩
 .have u:p<s.size:=by omega
  have t:s.data.toList[l.pos.toNat]? =some s[p]:=by
   have A:l.pos.toNat=p:=by omega
   rw[A,bU (by omega)]
   rfl
  have n:l.pos.toNat+1=p+1:=by omega
  have q:=ar8 h p D u F _ rfl;cases f:xk s.data.toList (Hx.shape s[p].toNat) (p+1) l.jD with
  |none=>
   have d:xW s.data.toList l=none:=by
    unfold xW;rw[t];simp only[n,f];split<;>rfl
   simp only[FW,d];refine Wu (q.mono ?_);rintro e v ⟨g,j,k,⟨i,o,c,a,_⟩|⟨_,_,rfl⟩⟩
   .rw[f]at a;cases a
   .exact⟨g,_,_,_,_,_,j,k,rfl⟩
  |some r=>
   obtain⟨i,o,c⟩:=r;cases b:Hx.Fp s[p].toNat with
   |false=>
    have d:xW s.data.toList l=none:=by
     unfold xW;rw[t];simp[b]
    simp only[FW,d];refine Wu (q.mono ?_);rintro e v ⟨g,j,k,⟨i,o,c,a,_,rfl⟩|⟨a,_⟩⟩
    .rw[b];exact⟨g,_,_,_,_,_,j,k,rfl⟩
    .rw[f]at a;cases a
   |true=>
    have d:xW s.data.toList l=some (⟨s[p].toNat,i.getD 0 0,i.getD 1 0,i.getD 2 0,i.getD 3 0,0,0⟩,{l with pos:=o,jD:=c}):=by
     unfold xW;rw[t];simp[b,n,f]
    have m:=Hx.O6 d (by omega) hi.jD;simp only[FW,d];refine anF {l with pos:=o,jD:=c} (hi.read m.2.2.2.1 m.2.2.2.2.1) (by show l.jB.length<=100000;omega) _ rfl rfl (q.mono ?_);rintro e v ⟨g,j,k,⟨G,H,z,a,C,rfl⟩|⟨a,_⟩⟩
    .rw[f]at a;cases a;subst C;rw[b];exact⟨j,k,rfl⟩
    .rw[f]at a;cases a
end
end
section
open Go.RowKit
open Hx (St Bk Ls jK Inv Jz)
attribute [local go_sem ↓] Go.wp_at_zero Go.wp_at_succ
attribute [local go_sem] kN
section
variable {B:Nat}{w:jk}{L:Nat}{s:ji}{l:Ls}{vs vb vl:jm}
theorem jV.below(h:jT B w L s l vs vb vl){w':jk}{vs' kL lq:jm}(b:jV L w vs vb vl w' vs' kL lq):Below B w w':=by
 refine⟨b.os,b.tape,b.output,b.size,λk j=>?_⟩;have i:=h.lt;have g:=h.bL;have a:∀{v:jm}{e:jo}{d n:Nat}{f:List jm},w.ownsRow B e d v n f->some k≠v.ownBlock:=λc e=>by
  have:=(c.lt k e.symm).1;omega
 exact b.block k (by omega) (by omega) (a h.jB) (a h.jH) (a h.jY)
def PY(bs:List UInt8)(g:Nat)(l:Ls):Prop:=
 (l.bad=true/\(mF bs).bad=true)\/(l.bad=false/\l=mF bs/\Jz l/\l.pos<=bs.length)\/
 (Inv l/\0<=l.pos/\l.pos<=bs.length/\(l.jB.length:Int)<=l.pos/\(bs.length:Int)-l.pos<g/\vw bs g l=mF bs)
theorem atZ(bs:List UInt8):PY bs (bs.length+1) ug:=
 je (je ⟨Hx.adW,by simp[ug],by simp[ug],by simp[ug],by simp only[ug];omega,rfl⟩)
theorem at1{bs:List UInt8}(x:bs.length<=100000){g:Nat}{l o:Ls}(hi:Inv l)(u:0<=l.pos)(C:l.pos<=bs.length)(D:(l.jB.length:Int)<=l.pos)(v:(bs.length:Int)-l.pos<(g+1:Nat))(b:vw bs (g+1) l=mF bs)(c:FW bs l o):PY bs g o:=by
 have y:¬(l.jH=[]\/l.bad=true):=λe=>e.elim hi.jH.1 (λe=>by rw[hi.bad]at e;cases e);unfold FW at c;cases hr:xW bs l with
 |none=>
  rw[hr]at c;refine jf ⟨c,?_⟩;rw[<-b];simp only[vw,jg y,hr]
 |some q=>
  obtain⟨j,h⟩:=q;rw[hr]at c;simp only at c;subst c;rw[Hx.aes bs g l h j hi hr]at b;obtain⟨p,A,m,r,t,n⟩:=Hx.O6 hr u hi.jD;have k:Inv h:=by rw[n];exact hi.read r t
  have d:h.jB=l.jB:=by rw[n]
  obtain⟨z,f⟩:=Hx.adS h j;cases a:(lH h j).bad with
  |true=>
   rw[Hx.aeo bs g _ a]at b;exact jf ⟨a,by rw[<-b];exact a⟩
  |false=>
   rcases Hx.adX k j p (by rw[d];omega) a with i|i
   .exact je (je ⟨i,by rw[f];omega,by rw[f];exact m,by rw[f];rw[d]at z;omega,by rw[f];push_cast at v;omega,b⟩)
   .rw[Hx.aep bs g _ i.jH]at b;exact je (jf ⟨a,b,i,by rw[f];exact m⟩)
structure F7(w:jk)(C:Nat)(l:Ls):Prop where
 code:∃sb cap,uz w.heap.size w C 0 sb 0 cap l.jB
 jD:w.cell? (Ad C 1)=some (Im l.jD)
 jC:w.cell? (Ad C 2)=some (Im l.jC)
def Ut(s:ji)(w:jk)(e:Ending)(w':jk):Prop:=
 Below w.heap.size w w'/\((xA s.data.toList=true/\∃C,w.heap.size<=C/\e=.returned (.tuple #[Pt C 0,Im 0])/\F7 w' C (mF s.data.toList))\/
  (xA s.data.toList=false/\e=.returned (.tuple #[.pointer none,Im 5])))
theorem ak4(h:jT B w L s l vs vb vl)(b:0<l.jB.length)(k:Nat)(T:jo):F7 ((w.drewN k).alloc (.cells #[vs,Im l.jD,Im l.jC] T)) w.heap.size l:=by
 have f:∀j,((w.drewN k).alloc (.cells #[vs,Im l.jD,Im l.jC] T)).cell? (Ad w.heap.size j)=(#[vs,Im l.jD,Im l.jC]:Array jm)[j]? :=λj=>by
  have r:((w.drewN k).alloc (.cells #[vs,Im l.jD,Im l.jC] T)).heap[w.heap.size]? =some (.cells #[vs,Im l.jD,Im l.jC] T):=aY (w.drewN k) _;exact jG r
 have p:=(h.drewN k).alloc (.cells #[vs,Im l.jD,Im l.jC] T);have c:l.jB[0]? =some l.jB[0]:=bU b;obtain⟨g,d,n,q,_⟩:=p.Dk c;refine⟨⟨g,d,?_,q,?_,?_⟩,f 1,f 2⟩
 .show w.heap.size<((w.drewN k).alloc _).heap.size;rw[show∀(x:jk) o,(x.alloc o).heap.size=x.heap.size+1 fromλx o=>by simp];exact Nat.lt_succ_self _
 .rw[f 0,n];rfl
 .intro i st hst;obtain⟨t,m,a,_,_,_,_,_,e,_⟩:=p.Dk hst;rw[n]at a;cases a;rw[gW];exact e
theorem aoO(w:jk)(s:ji)(c:100000<s.size):Calls prog 31 #[.string s] w (Ut s w):=by
 have b:decide ((100000:Int)<(s.size:Int))=true:=by simp;omega
 have a:Hid (xA s.data.toList=false):=by
  have:¬s.data.toList.length<=100000:=by simp;omega
  show _=_;simp only[xA,dO this,gK]
 go_enter func31,ntmps31;go_wp2_with fail;go_ret2;exact⟨dK _ w,je ⟨a.out,rfl⟩⟩
theorem aoP(w:jk)(s:ji)(Q:s.size<=100000):Calls prog 31 #[.string s] w (Ut s w):=by
 have d1:decide ((100000:Int)<(s.size:Int))=false:=by simp;omega
 have q:s.data.toList.length<=100000:=by simpa using Q
 have O:s.data.toList.length=s.size:=by simp
 go_enter func31,ntmps31;go_wp2_with fail;refine(apK w s).mono ?_;rintro e w1 ⟨L,rfl,hL,c,g,Y,t⟩;have d:Hid (Below w.heap.size w w1):=⟨c.os,c.tape,c.output,c.size,λk hk=>c.block k hk (by simp)⟩;have M:=jA t;clear c t;go_wp2_with fail;go_loopg [] (s.data.toList.length+1) (λgg wr=>∃l vs vb vl,jT w.heap.size wr L s l vs vb vl/\Below w.heap.size w wr/\PY s.data.toList gg l)
 case atStart=>exact⟨_,_,_,_,M.out,d.out,atZ _⟩
 case round=>
  obtain⟨l,vs,vb,vl,b,f,h3⟩:=hrel;clear M d;obtain⟨W,Z,rfl⟩:=vI b.jH;obtain⟨m,o,rfl⟩:=vI b.jB;have c1:=b.c1;have c2:=b.c2;have X:=b.c3;have c5:=b.c5;have c6:=b.c6;have E:=b.c7;rcases h3 with⟨z,a⟩|⟨z,a,A,ad⟩|⟨r,S,p1,p2,p3,U⟩
  .have i:Hid (xA s.data.toList=false):=by
    show _=_;simp only[xA,a,jc,iL,gK]
   have d:=jA f;rw[z]at E;clear b f a;generalize l.jH.length=n at *;by_cases hn:n=0
   .subst hn;go_wp2_with fail;go_ret2;exact⟨d.out,je ⟨i.out,rfl⟩⟩
   .have H:decide ((0:Int)<(n:Int))=true:=by simp;omega
    go_wp2_with fail;go_ret2;exact⟨d.out,je ⟨i.out,rfl⟩⟩
  .have G:l.jH.length=0:=by rw[A.jH];rfl
   rw[G]at X;rw[z]at E;have aa:=b.lt;have n1:¬L=wr.heap.size:=by omega
   have d:=jA f;have x:Hid (∀k T,F7 ((wr.drewN k).alloc (.cells #[.slice m l.jB.length o,Im l.jD,Im l.jC] T)) wr.heap.size (mF s.data.toList)):=λk T=>by
    rw[<-a];exact ak4 b A.sound.fits.pos k T
   by_cases C:l.pos<s.size
   .have i:Hid (xA s.data.toList=false):=by
     show _=_;have:¬(mF s.data.toList).pos=(s.data.toList.length:Int):=by rw[<-a];omega
     simp only[xA,dO this,iL]
    have d2:=dR C;clear b f a A;generalize l.pos=pos at *;go_wp2_with fail;go_ret2;exact⟨d.out,je ⟨i.out,rfl⟩⟩
   .have i:Hid (xA s.data.toList=true):=by
     show _=_;have e1:(mF s.data.toList).pos=(s.data.toList.length:Int):=by rw[<-a];omega
     have e2:(mF s.data.toList).bad=false:=by rw[<-a];exact z
     simp only[xA,dR e1,dR q,e2,Bool.not_false,Bool.and_self]
    have d2:=dO C;clear b f a A;generalize l.pos=pos at *;generalize l.jD=sl at *;generalize l.jC=jC at *;generalize l.jB.length=ae at *;go_wp2_with fail;refine nO 13 (by kernel_rfl) (by kernel_rfl) ?_;simp only[aC,aO,aG,aQ];repeat (go_big_quiet_step (fail))
    refine bF ?_;intro _ I;obtain⟨R,v⟩:=I;subst v;go_wp2_with fail;go_ret2;refine⟨?_,jf ⟨i.out,wr.heap.size,by have:=d.out.size;omega,rfl,x.out R _⟩⟩;have F:Below w.heap.size w (wr.drewN R):=d.out.trans ⟨rfl,rfl,rfl,aj _,λ_ _=>rfl⟩;exact F.alloc d.out.size _
  .have ac:=List.length_pos_iff.2 r.jH.1;have H:decide ((0:Int)<(l.jH.length:Int))=true:=by simp;omega
   rw[r.bad]at E;obtain⟨p,C⟩:=bI S;obtain⟨y,rfl⟩:∃y,gk=y+1:=⟨gk-1,by omega⟩;have x:=jA (anH b r p C (by omega) Q (by omega));have N:Hid (∀e D,MW w.heap.size wr L s (.slice m l.jB.length o) (.slice W l.jH.length Z) vl (λj=>FW s.data.toList l j) e D->e=.returned (.tuple #[])/\∃j h J K,jT w.heap.size D L s j h J K/\Below w.heap.size w D/\PY s.data.toList y j):=by
    rintro e D ⟨q1,j,h,J,K,q2,q3,q4⟩;exact⟨q1,j,h,J,K,q2,f.trans (jV.below b q3),at1 q r S p1 p2 p3 U q4⟩
   clear b f r U;generalize l.jH.length=n at *;go_wp2_with fail;refine x.out.mono ?_;intro e w2 P;obtain⟨rfl,u⟩:=N.out _ _ P;have V:=jA u;clear P u x N;go_wp2_with fail;go_roundg y
   case measure=>omega
   case rel=>exact V.out
theorem aoN(w:jk)(s:ji):Calls prog 31 #[.string s] w (Ut s w):=by
 by_cases a:s.size<=100000
 .exact aoP w s a
 .exact aoO w s (by omega)
end
end
end Go.Proofs.YthllhabjfchgiaaGreatDoor
