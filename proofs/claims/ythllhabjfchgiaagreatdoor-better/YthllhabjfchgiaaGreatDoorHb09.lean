import Derived.Test.YthllhabjfchgiaaGreatDoorHb08
import Derived.Test.YthllhabjfchgiaaGreatDoorHb06
set_option maxRecDepth 100000
set_option maxHeartbeats 8000000
set_option linter.unusedSimpArgs false
namespace Go.Proofs.YthllhabjfchgiaaGreatDoor
open _root_.Go.Proofs.Tryz
section
open Go.RowKit
open Hx (Rd Pk Vw St Mc jO Out)
def Az(v:Vw)(jC:List St)(n:Nat)(fuel x0 x1 x2 x3 x4 x5 x6 x7:Int):Out:=
 if AO v=true then Hx.runs v jC [x0,x1,x2,x3,x4,x5,x6,x7] fuel.toNat 0 (su x0 x1 x2 x3 x4 x5 x6 x7 n)else ⟨3,[x0,x1,x2,x3,x4,x5,x6,x7],[]⟩
theorem Dq{w:jo}{b b':Nat}{e:jv}{size:Nat}{u:jr}{n:Nat}{xs:List jr}(h:w.ownsRow b e size u n xs)(hb:b'<=b):w.ownsRow b' e size u n xs:=by
 refine⟨h.1,?_⟩;rcases h.2 with h|⟨g,cap,cur,h1,h2,h3⟩
 .exact ji h
 .exact jh ⟨g,cap,cur,h1,by omega,h3⟩
theorem aeM(st:Int)(va:jr)(l:List Int):tZ st va l=tZ st va [l.getD 0 0,l.getD 1 0,l.getD 2 0,l.getD 3 0,l.getD 4 0,l.getD 5 0,l.getD 6 0,l.getD 7 0]:=by
 simp[tZ]
set_option maxRecDepth 1000000 in
theorem apY(w:jo)(cb co sb so cap n:Nat)(jC:List St)(v:Vw)(ar af aa:Option Addr)(nr cr nf cf na ca:Nat)(x0 x1 x2 x3 x4 x5 x6 x7 fuel:Int)
 (hfit:Hx.Fits jC n)(h8:8<=n)(hn:n<=100000)(hc:uh w.heap.size w cb co sb so cap jC)(hsl:w.cell? (Ad cb (co+1))=some (Im n))
 (hv:wu w.heap.size w ar af aa nr nf na v)(hT:rW w)(hone:1<w.heap.size)(hx:∀x∈[x0,x1,x2,x3,x4,x5,x6,x7],jO x)(hfm:fuel<=9223372036854775807):
 Calls prog 16 #[Pt cb co,.agg #[.slice ar nr cr,.slice af nf cf,.slice aa na ca],.agg #[Im x0,Im x1,Im x2,Im x3,Im x4,Im x5,Im x6,Im x7],Im fuel] w λe w'=>
  ∃va,e=.returned (tZ (Az v jC n fuel x0 x1 x2 x3 x4 x5 x6 x7).status va (Az v jC n fuel x0 x1 x2 x3 x4 x5 x6 x7).jG)/\
   w'.ownsRow w.heap.size 76 2 va (Az v jC n fuel x0 x1 x2 x3 x4 x5 x6 x7).jP.length (oK (Az v jC n fuel x0 x1 x2 x3 x4 x5 x6 x7).jP)/\Below w.heap.size w w':=by
 generalize ho:Az v jC n fuel x0 x1 x2 x3 x4 x5 x6 x7=o;generalize hW:boxes w ar af aa nr cr nf cf na ca x0 x1 x2 x3 x4 x5 x6 x7=W;have hsz:W.heap.size=w.heap.size+1+1+1:=by rw[<-hW];exact aiA ..
 have hold:w.grownBy W none:=by rw[<-hW];exact aix ..
 have PV:∀k,W.cell? (Ad w.heap.size k)=#[Value.slice ar nr cr,.slice af nf cf,.slice aa na ca][k]? :=λk=>by rw[<-hW];exact aiB ..
 have Ep:I5 W w.heap.size x0 x1 x2 x3 x4 x5 x6 x7:=by rw[<-hW];exact aiy w ar af aa nr cr nf cf na ca x0 x1 x2 x3 x4 x5 x6 x7
 have hres:wR W w.heap.size:=by rw[<-hW];exact aiz ..
 have hcell:∀x:Addr,x.block<w.heap.size->W.cell? x=w.cell? x:=λx hx=>bQ (hold.block _ hx (by simp));have hbelow:=(dK _ _).grown hold (aj _) (by simp);have hvW:wu W.heap.size W ar af aa nr nf na v:=by
  have:=hv.keep hcell;exact⟨λi r hr=>by obtain⟨b,o,e,hb,hp⟩:=this.pO i r hr;exact⟨b,o,e,by omega,hp⟩,λi r hr=>by obtain⟨b,o,e,hb,hp⟩:=this.qB i r hr;exact⟨b,o,e,by omega,hp⟩,λi r hr=>by obtain⟨b,o,e,hb,hp⟩:=this.qy i r hr;exact⟨b,o,e,by omega,hp⟩,this.MQ,this.MP,this.MO,this.Gl⟩
 have hTW:rW W:=λj hj=>by rw[hcell _ (by show 1<_;omega)];exact hT j hj
 have Us:=hc.keep hbelow;have hcW:uh W.heap.size W cb co sb so cap jC:=⟨by have:=hc.FK;omega,by have:=hc.Gn;omega,Us.slice,Us.step⟩;have asA:W.cell? (Ad cb (co+1))=some (Im n):=by rw[hcell _ hc.FK];exact hsl
 have Sn:Hid (∀(a':Act)(w1:jo)(st:Int)(va:jr)(y0 y1 y2 y3 y4 y5 y6 y7:Int)(jP:List (Int×Int)),Below W.heap.size W w1->wR w1 w.heap.size->w1.ownsRow W.heap.size 76 2 va jP.length (oK jP)->(∃a n c,va=.slice a n c)->
  a'.tmps.getD 8 undef=Pt (w.heap.size+1+1) 0->a'.defers=[]->o.status=st->tZ st va o.jG=tZ st va [y0,y1,y2,y3,y4,y5,y6,y7]->o.jP=jP->
  bodyPost prog Tryz.f16 (λe w'=>∃va,e=.returned (tZ o.status va o.jG)/\w'.ownsRow w.heap.size 76 2 va o.jP.length (oK o.jP)/\Below w.heap.size w w') .ret a' (EF w1 w.heap.size st va y0 y1 y2 y3 y4 y5 y6 y7)):=by
  rintro a' w1 st va y0 y1 y2 y3 y4 y5 y6 y7 jP hb1 hr1 hown ⟨I8,nn,cc,rfl⟩ ht hd rfl MB rfl;refine cu (v:=tZ o.status (.slice I8 nn cc) [y0,y1,y2,y3,y4,y5,y6,y7]) (ao4 w1 w.heap.size hr1 o.status I8 nn cc y0 y1 y2 y3 y4 y5 y6 y7 a'.tmps ht) hd ⟨.slice I8 nn cc,by rw[MB],?_,?_⟩
  .have h1:=hown.kept (aeB w1 w.heap.size o.status (.slice I8 nn cc) y0 y1 y2 y3 y4 y5 y6 y7) (by
    cases hb:(Value.slice I8 nn cc).ownBlock with
    |none=>exact ji rfl
    |some g=>
     right;have:=(hown.lt g hb).1;simp;omega)
   exact Dq h1 (by omega)
  .refine(hbelow.trans (hb1.mono (by omega))).trans ((dK _ _).grown (aeB w1 w.heap.size o.status (.slice I8 nn cc) y0 y1 y2 y3 y4 y5 y6 y7) ?_ ?_)
   .have:=hb1.size;omega
   .intro k hk;cases hk;omega
 have e3:w.heap.size+1+1<W.heap.size:=by omega
 have wM:Hid (∀k,Calls prog 49 #[.agg #[.slice ar nr cr,.slice af nf cf,.slice aa na ca],.agg #[Im x0,Im x1,Im x2,Im x3,Im x4,Im x5,Im x6,Im x7],Im n] (W.drewN k) λe w'=>
  e=.returned (Pt (W.heap.size+1+1+1) 0)/\Below W.heap.size W w'/\
  (Good v->kM W.heap.size (W.heap.size+4) w' (W.heap.size+1+1+1) (W.heap.size+1+1) v (su x0 x1 x2 x3 x4 x5 x6 x7 n))):=λk=>by
  refine(anp ar af aa nr cr nf cf na ca x0 x1 x2 x3 x4 x5 x6 x7 n (W.drewN k) hn h8).mono ?_;rintro e w' ⟨h1,h2,h3⟩;refine⟨h1,(below_drewN (dK _ _) k).trans h2,λhgood=>h3 W.heap.size v (by omega) (aj _) (λj hj=>hTW j hj) (hvW.keep (λ_ _=>rfl)) hgood hx⟩
 have b0:=PV 0;have b1:=PV 1;have b2:=PV 2;simp only[List.getElem?_toArray,jc,dw]at b0 b1 b2;have g0:=Ep 0 (by omega);have g1:=Ep 1 (by omega);have g2:=Ep 2 (by omega);have g3:=Ep 3 (by omega);have g4:=Ep 4 (by omega);have g5:=Ep 5 (by omega);have g6:=Ep 6 (by omega);have g7:=Ep 7 (by omega);simp only[iU,iV]at g0 g1 g2 g3 g4 g5 g6 g7;have HW:=jB hW;have HSZ:=jB hsz;have HO:=jB ho;clear hW hold PV hcell hv hc hsl hT Us hsz ho;generalize hvv:Value.agg #[.slice ar nr cr,.slice af nf cf,.slice aa na ca]=vv0;generalize hrv:Value.agg #[Im x0,Im x1,Im x2,Im x3,Im x4,Im x5,Im x6,Im x7]=rv0;subst hvv hrv;go_enter func16,ntmps16;go_wp2_with fail;rw[show((w.alloc (Obj.cells #[.slice ar nr cr,.slice af nf cf,.slice aa na ca] 25)).alloc
  (Obj.cells #[Im x0,Im x1,Im x2,Im x3,Im x4,Im x5,Im x6,Im x7] 26)).alloc
  (Obj.cells #[.int .u8 0,Nl,Im 0,Im 0,Im 0,Im 0,Im 0,Im 0,Im 0,Im 0] 35)=W from HW.out]
 refine ar2 (λl=>.seq .skip (yX Tryz.f16 l)) (ag9 W.heap.size (W.heap.size+4) (W.heap.size+1+1+1) (W.heap.size+1+1) v cb co sb so cap jC n w.heap.size [x0,x1,x2,x3,x4,x5,x6,x7] o (.agg #[.slice ar nr cr,.slice af nf cf,.slice aa na ca]) (.agg #[Im x0,Im x1,Im x2,Im x3,Im x4,Im x5,Im x6,Im x7]) W) apX ?hf ?first ?pass
 case hf=>
  intro l a1 w1 hJ;have hl:l=0\/l=1:=by
   rcases l with _|_|l
   .exact ji rfl
   .exact jh rfl
   .exact hJ.elim
  clear hJ;rcases hl with rfl|rfl
  .show _=_
   kernel_rfl
  .show _=_
   kernel_rfl
 case pass=>
  intro l a1 w1 hJ;rcases l with _|_|l
  .obtain⟨st,ha,hos,hr,hb⟩:=hJ;refine wp_seq (wp_skip ?_);refine aqb a1 ha (Ep.keep hb (by omega)) hr _ ?_;intro a' ht hd;have:=Sn.out a' w1 st (Nl) x0 x1 x2 x3 x4 x5 x6 x7 [] hb hr (fK _ _ _ _) ⟨_,_,_,rfl⟩ ht hd (by rw[hos]) (by rw[hos]) (by rw[hos]);exact this
  .obtain⟨fuel1,k1,m1,ha,hg,hb⟩:=hJ;refine wp_seq (wp_skip ?_);refine aeV hfit h8 e3 a1 ha hg _ ?_ ?_ ?_
   .intro a' w' fuel' k' m' h1 h2 h3 h4 h5;refine⟨⟨fuel',k',m',h1,h2,hb.trans h3⟩,?_⟩;show 1+(intOf (a'.tmps.getD 3 undef)).toNat<1+(intOf (a1.tmps.getD 3 undef)).toNat;rw[Zz h1,Zz ha];simp only[intOf];omega
   .intro a' w' st h1 h2 h3 h4;refine⟨⟨st,h1,h2,h3,hb.trans h4⟩,?_⟩;show 0<1+(intOf (a1.tmps.getD 3 undef)).toNat;omega
   .intro a' w2 va h1 h2 h3 h4 h5 h6 h7;have:=Sn.out a' w2 0 va _ _ _ _ _ _ _ _ m1.jP (hb.trans h4) h5 (Dq h2 (by omega)) h3 h6 h7 (by rw[h1]) (by rw[h1];exact aeM _ _ _) (by rw[h1]);exact this
  .exact hJ.elim
 case first=>
  go_wp2_with fail;refine nJ 6 (by kernel_rfl) (by kernel_rfl) ?_;simp only[aC,aO,aG,aQ];repeat (go_big_quiet_step (fail))
  refine bF ?_;intro _ hw';obtain⟨n3,hw''⟩:=hw';subst hw'';go_wp2_with fail;refine(wM.out n3).mono ?_;rintro e w1 ⟨rfl,hb1,hm1⟩;have v0:=(hb1.cell (p:=(Ad w.heap.size 0)) (by show w.heap.size<_;omega)).trans b0;have v1:=(hb1.cell (p:=(Ad w.heap.size 1)) (by show w.heap.size<_;omega)).trans b1;have v2:=(hb1.cell (p:=(Ad w.heap.size 2)) (by show w.heap.size<_;omega)).trans b2;have HV:=jB (alm cr cf ca (hvW.keep (λx hx=>hb1.cell hx)) hb1.size);have HB1:=jB hb1;have HM1:=jB hm1;clear hb1 hm1;go_wp2_with fail;refine(HV.out).mono ?_;rintro e w2 ⟨rfl,hb2⟩;have HB2:=jB hb2;clear hb2;cases hok:AO v with
  |false=>
   have HF:Hid (o=⟨3,[x0,x1,x2,x3,x4,x5,x6,x7],[]⟩):=by
    show o=_;rw[<-HO.out];simp[Az,hok]
   clear hok;go_wp2;go_step3;have hb:=HB1.out.trans (HB2.out.mono HB1.out.size);refine⟨3,?_,HF.out,hres.keep hb e3,hb⟩;unfold DK
   (repeat apply Exists.intro)
   rfl
  |true=>
   have HF:Hid (Hx.runs v jC [x0,x1,x2,x3,x4,x5,x6,x7] fuel.toNat 0 (su x0 x1 x2 x3 x4 x5 x6 x7 n)=o):=by
    show _=o;rw[<-HO.out];simp[Az,hok]
   have hgood:=YH hok;have HG:=jB hgood;clear hok hgood;go_wp2;go_step3;rename_i hK;refine hK _ _ ?_;have hb:=HB1.out.trans (HB2.out.mono HB1.out.size);have hm1:=HM1.out HG.out;have hg:w1.grownBy w2 none:=⟨HB2.out.os,HB2.out.tape,HB2.out.output,HB2.out.size,λk hk _=>HB2.out.block k hk⟩;have hm2:=hm1.grow hg;refine aeV (B:=W.heap.size) (C:=W.heap.size+4) (M:=W.heap.size+1+1+1) (SB:=W.heap.size+1+1) (v:=v) (jC:=jC) (H:=w.heap.size) (cb:=cb) (co:=co) (sb:=sb) (so:=so) (cap:=cap) (fuel:=fuel) (k:=0) (m:=su x0 x1 x2 x3 x4 x5 x6 x7 n) (o:=o) (jG:=[x0,x1,x2,x3,x4,x5,x6,x7]) (vv:=.agg #[.slice ar nr cr,.slice af nf cf,.slice aa na ca]) (rv:=.agg #[Im x0,Im x1,Im x2,Im x3,Im x4,Im x5,Im x6,Im x7]) hfit h8 e3 _ ?_ ?_ _ ?_ ?_ ?_
   .unfold nD
    (repeat apply Exists.intro)
    rfl
   .exact⟨hm2,hcW.keep hb,hres.keep hb e3,by simp[su];omega,by simp[su],by omega,by have:=hfit.pos;omega,hfm,HF.out⟩
   .intro a' w' fuel' k' m' h1 h2 h3 _ _;exact⟨fuel',k',m',h1,h2,hb.trans h3⟩
   .intro a' w' st h1 h2 h3 h4;exact⟨st,h1,h2,h3,hb.trans h4⟩
   .intro a' w3 va h1 h2 h3 h4 h5 h6 h7;have:=Sn.out a' w3 0 va _ _ _ _ _ _ _ _ (su x0 x1 x2 x3 x4 x5 x6 x7 n).jP (hb.trans h4) h5 (Dq h2 (by omega)) h3 h6 h7 (by rw[h1]) (by rw[h1];exact aeM _ _ _) (by rw[h1]);exact this
end
namespace Hx
open Go.RowKit
structure Gz(v:Vw)(jP:List (Int×Int)):Prop where
 each:∀a∈jP,(∃r∈v.pO,r.id=a.1)/\((∃p∈v.qB,p.seq=a.2)\/(∃p∈v.qy,p.seq=a.2))
 len:jP.length<=256
def SN(v:Vw)(jG:List Int)(o:Out):Prop:=(o.status=0/\Gz v o.jP)\/((o.status=1\/o.status=2)/\o.jG=jG/\o.jP=[])
theorem ahm(v:Vw):Gz v []:=⟨λ_ h=>(dU h).elim,by simp⟩
theorem aiR(s:St)(b:Bool)(m:Mc):(choose s b m).jP=m.jP:=by
 unfold choose;split<;>rfl
theorem arU(v:Vw)(s:St)(m:Mc):(work v s m).jP=m.jP:=by
 unfold work;repeat' split
 all_goals first|rfl|exact aiR _ _ _
theorem WZ(s:St)(k:Int)(m:Mc):(kR s k m).1.jP=m.jP:=by
 unfold kR;split<;>rfl
theorem aoP{v:Vw}{i j:Int}{m m':Mc}(h:push v i j m=some m')(ha:Gz v m.jP):Gz v m'.jP:=by
 unfold push at h;split at h
 .rename_i r p hr hp;split at h
  .cases h
  .rename_i hl;cases h;refine⟨λa h=>?_,?_⟩
   .rcases List.mem_append.1 h with h|h
    .exact ha.each a h
    .rw[cO]at h;subst h;refine⟨⟨r,Vw.adh hr,rfl⟩,?_⟩;rcases Vw.adg hp with h|h
     .exact ji ⟨p,h,rfl⟩
     .exact jh ⟨p,h,rfl⟩
   .have:=ha.len;simp only[aA,eG];omega
 .cases h;exact ha
theorem aqO{v:Vw}{S:List St}{jG:List Int}{k:Nat}{s:St}{m:Mc}(ha:Gz v m.jP):
 (∀o,step v S jG k s m=.inl o->SN v jG o)/\(∀k' m',step v S jG k s m=.inr (k',m')->Gz v m'.jP):=by
 unfold step;by_cases h1:s.op=1
 .simp only[jl h1];exact⟨λo h=>by cases h;exact ji ⟨rfl,ha⟩,λk' m' h=>by cases h⟩
 by_cases h2:s.op=2
 .simp only[jk h1,jl h2];exact⟨λo h=>(by cases h),λk' m' h=>by cases h;exact ha⟩
 by_cases h3:s.op=3
 .simp only[jk h1,jk h2,jl h3];exact⟨λo h=>(by cases h),λk' m' h=>by cases h;exact ha⟩
 by_cases h4:s.op=4
 .simp only[jk h1,jk h2,jk h3,jl h4];exact⟨λo h=>(by cases h),λk' m' h=>by cases h;rw[WZ];exact ha⟩
 by_cases h5:s.op=5
 .simp only[jk h1,jk h2,jk h3,jk h4,jl h5];split
  .split
   .exact⟨λo h=>(by cases h),λk' m' h=>by cases h;rw[WZ];exact ha⟩
   .exact⟨λo h=>by cases h;exact jh ⟨jh rfl,rfl,rfl⟩,λk' m' h=>by cases h⟩
  .exact⟨λo h=>(by cases h),λk' m' h=>by cases h;exact ha⟩
 by_cases h0:s.op=0
 .simp only[jk h1,jk h2,jk h3,jk h4,jk h5,jl h0];split
  .exact⟨λo h=>(by cases h),λk' m' h=>by cases h;rw[WZ];exact ha⟩
  .exact⟨λo h=>by cases h;exact jh ⟨jh rfl,rfl,rfl⟩,λk' m' h=>by cases h⟩
 by_cases Ht:s.op=36
 .simp only[jk h1,jk h2,jk h3,jk h4,jk h5,jk h0,jl Ht];cases hp:push v (m.get s.a) (m.get s.b) m with
  |none=>exact⟨λo h=>by cases h;exact jh ⟨ji rfl,rfl,rfl⟩,λk' m' h=>by cases h⟩
  |some m1=>exact⟨λo h=>(by cases h),λk' m' h=>by cases h;exact aoP hp ha⟩
 .simp only[jk h1,jk h2,jk h3,jk h4,jk h5,jk h0,jk Ht];exact⟨λo h=>(by cases h),λk' m' h=>by cases h;rw[arU];exact ha⟩
theorem aeX(v:Vw)(S:List St)(jG:List Int):∀(f:Nat)(k:Int)(m:Mc),Gz v m.jP->SN v jG (runs v S jG f k m)
 |0,_,_,_=>jh ⟨jh rfl,rfl,rfl⟩
 |f+1,k,m,ha=>by
  simp only[runs];cases hk:S[k.toNat]?with
  |none=>exact jh ⟨jh rfl,rfl,rfl⟩
  |some s=>
   obtain⟨g1,g2⟩:=aqO (v:=v) (S:=S) (jG:=jG) (k:=k.toNat) (s:=s) ha;simp only;cases hs:step v S jG k.toNat s m with
   |inl o=>exact g1 o hs
   |inr p=>
    obtain⟨k',m'⟩:=p;exact aeX v S jG f k' m' (g2 k' m' hs)
end Hx
section
open Go.RowKit
open Hx (St Bk Ls jO Inv)
attribute [local go_sem ↓] Go.wp_at_zero Go.wp_at_succ
attribute [local go_sem] kL
section
variable {B:Nat}{w:jo}{L:Nat}{s:jm}{l:Ls}{vs vb vl:jr}
def y9(B:Nat)(w:jo)(L:Nat)(s:jm)(vs vb vl:jr)(l':Ls)(e:Ending)(w':jo):Prop:=
 e=.returned (.tuple #[])/\∃vs' kJ lq,jT B w' L s l' vs' kJ lq/\jV L w vs vb vl w' vs' kJ lq
def zN(st:St):jr:=.agg #[.int .u8 st.op,Im st.a,Im st.b,Im st.c,Im st.d,Im st.depth,Im st.ku]
section
theorem ahi(h:jT B w L s l vs vb vl)(hi:Inv l)(hl:l.jC.length<=100000)(st:St)(ho:st.op=2):Calls prog 113 #[Pt L 0,zN st] w (y9 B w L s vs vb vl (lD l st)):=by
 obtain⟨b1,b2⟩:=hi.jI;refine(adY h b1 (by omega) (by omega) st.op st.a st.b st.c st.d st.depth st.ku).mono ?_;rintro e w' ⟨h1,vs',kJ,h2,h3⟩;refine⟨h1,vs',kJ,vl,?_,h3⟩;rw[show lD l st=wZ l st by simp[lD,ho]];exact h2
theorem ahh(h:jT B w L s l vs vb vl)(hi:Inv l)(hl:l.jC.length<=100000)(st:St)(ho:st.op=4):Calls prog 114 #[Pt L 0,zN st] w (y9 B w L s vs vb vl (lD l st)):=by
 obtain⟨b1,b2⟩:=hi.jI;have h8:=hi.eight;by_cases hx:l.jY.length=8
 .refine(an9 h hx st.op st.a st.b st.c st.d st.depth st.ku).mono ?_;rintro e w' ⟨h1,h2,h3⟩;refine⟨h1,vs,vb,vl,?_,h3⟩;rw[show lD l st={l with bad:=true} by simp[lD,ho,hx]];exact h2
 .refine(aoa h b1 (by omega) (by omega) (by omega) st.op st.a st.b st.c st.d st.depth st.ku).mono ?_;rintro e w' ⟨h1,vs',kJ,lq,h2,h3⟩;refine⟨h1,vs',kJ,lq,?_,h3⟩;rw[show lD l st=Ic l st by simp[lD,ho,hx]];exact h2
theorem ahf(h:jT B w L s l vs vb vl)(hi:Inv l)(hl:l.jC.length<=100000)(st:St)(ho:st.op=3):Calls prog 115 #[Pt L 0,zN st] w (y9 B w L s vs vb vl (lD l st)):=by
 obtain⟨b1,b2⟩:=hi.jI;have b0:=List.length_pos_iff.2 b1;by_cases hx:l.jI.length=1
 .refine(ai3 h hx st.op st.a st.b st.c st.d st.depth st.ku).mono ?_;rintro e w' ⟨h1,h2,h3⟩;refine⟨h1,vs,vb,vl,?_,h3⟩;rw[show lD l st={l with bad:=true} by simp[lD,ho,hx]];exact h2
 have hb2:2<=l.jI.length:=by omega
 have Hu:l.jI.length<=900000:=by omega
 have Uy:l.jC.length<=900000:=by omega
 have h89:l.jY.length<=900000:=by have:=hi.eight;omega
 obtain⟨init,bo,b,e⟩:=hi.split2 hx;have hc:=hi.chain;rw[e,Hx.zM]at hc;obtain⟨o,so,c1,c2,c3,c4,c5⟩:=hc;have ht:=Hx.Rz e;have hto:l.top.opener=o:=by rw[ht,c1]
 by_cases hy:0<l.top.other
 .refine(ai4 h hb2 Hu hy st.op st.a st.b st.c st.d st.depth st.ku).mono ?_;rintro e w' ⟨h1,h2,h3⟩;refine⟨h1,vs,vb,vl,?_,h3⟩;rw[show lD l st={l with bad:=true} by simp[lD,ho,hy]];exact h2
 by_cases hz:so.op=2
 .refine(ai1 h hb2 Hu Uy hy o so c3 hto hz st.op st.a st.b st.c st.d st.depth st.ku).mono ?_;rintro e w' ⟨h1,vs',kJ,lq,h2,h3⟩;refine⟨h1,vs',kJ,lq,?_,h3⟩;rw[show lD l st=Ea l st o so by simp[lD,ho,hx,hy,hto,c3,hz]];exact h2
 .refine(ai5 h hb2 Hu hy o so c3 hto hz st.op st.a st.b st.c st.d st.depth st.ku).mono ?_;rintro e w' ⟨h1,h2,h3⟩;refine⟨h1,vs,vb,vl,?_,h3⟩;rw[show lD l st={l with bad:=true} by simp[lD,ho,hx,hy,hto,c3,hz]];exact h2
theorem ahg(h:jT B w L s l vs vb vl)(hi:Inv l)(hl:l.jC.length<=100000)(st:St)(ho:st.op=0):Calls prog 116 #[Pt L 0,zN st] w (y9 B w L s vs vb vl (lD l st)):=by
 obtain⟨b1,b2⟩:=hi.jI;have b0:=List.length_pos_iff.2 b1;have h8:=hi.eight;by_cases hx:l.jI.length=1
 .refine(ajl h hx (by omega) st.op st.a st.b st.c st.d st.depth st.ku).mono ?_;rintro e w' ⟨h1,vs',kJ,lq,h2,h3⟩;refine⟨h1,vs',kJ,lq,?_,h3⟩;rw[show lD l st=zX l by simp[lD,ho,hx]];exact h2
 have hb2:2<=l.jI.length:=by omega
 have Hu:l.jI.length<=900000:=by omega
 have Uy:l.jC.length<=900000:=by omega
 have h89:l.jY.length<=900000:=by have:=hi.eight;omega
 obtain⟨init,bo,b,e⟩:=hi.split2 hx;have hc:=hi.chain;rw[e,Hx.zM]at hc;obtain⟨o,so,c1,c2,c3,c4,c5⟩:=hc;have ht:=Hx.Rz e;have hto:l.top.opener=o:=by rw[ht,c1]
 by_cases hz:so.op=4
 .have hlo:=hi.jY;rcases c4 with⟨a1,a2,a3,a4,_⟩|⟨a1,_⟩|⟨a1,_⟩
  .have akn:l.jY=((Hx.kW l.jC o).reverse.map Int.ofNat)++[(o:Int)]:=by rw[hlo,a4];simp
   refine(ajo h hb2 Hu o so c3 hto hz _ _ akn h89 Uy st.op st.a st.b st.c st.d st.depth st.ku).mono ?_;rintro e w' ⟨h1,vs',kJ,lq,h2,h3⟩;refine⟨h1,vs',kJ,lq,?_,h3⟩;rw[show lD l st=zY l st o so by simp[lD,ho,hx,hto,c3,hz]];exact h2
  .omega
  .omega
 .rcases c4 with⟨a1,_⟩|⟨a1,a2,_⟩|⟨a1,x,t,a2,a3,a4,a5,_⟩
  .exact jq a1 hz
  .have hy:¬0<l.top.other:=by rw[ht,a2];omega
   refine(ajm h hb2 Hu o so c3 hto hz hy st.op st.a st.b st.c st.d st.depth st.ku).mono ?_;rintro e w' ⟨h1,vs',kJ,lq,h2,h3⟩;refine⟨h1,vs',kJ,lq,?_,h3⟩;rw[show lD l st=tu l o so l.jI.dropLast l.top by simp[lD,ho,hx,hto,c3,hz,hy]];exact h2
  .have hox:l.top.other=x:=by rw[ht,a2]
   have hy:0<l.top.other:=by rw[hox];omega
   refine(ajn h hb2 Hu o so c3 hto hz x t a5 (by omega) hox st.op st.a st.b st.c st.d st.depth st.ku).mono ?_;rintro e w' ⟨h1,vs',kJ,lq,h2,h3⟩;refine⟨h1,vs',kJ,lq,?_,h3⟩;have hx0:0<x:=by omega
   rw[show lD l st=tu l x t l.jI.dropLast l.top by simp[lD,ho,hx,hto,c3,hz,hox,hx0,a5]];exact h2
theorem ahj(h:jT B w L s l vs vb vl)(hi:Inv l)(hl:l.jC.length<=100000)(st:St)(ho:st.op=5):Calls prog 117 #[Pt L 0,zN st] w (y9 B w L s vs vb vl (lD l st)):=by
 obtain⟨b1,b2⟩:=hi.jI;have h8:=hi.eight;rcases List.eq_nil_or_concat l.jY with hx|⟨init,x,hx⟩
 .refine(aqD h hx st.op st.a st.b st.c st.d st.depth st.ku).mono ?_;rintro e w' ⟨h1,h2,h3⟩;refine⟨h1,vs,vb,vl,?_,h3⟩;rw[show lD l st={l with bad:=true} by simp[lD,ho,hx,IB]];exact h2
 .rw[List.concat_eq_append]at hx;refine(aqF h b1 (by omega) (by omega) (by omega) init x hx st.op st.a st.b st.c st.d st.depth st.ku).mono ?_;rintro e w' ⟨h1,vs',h2,h3⟩;refine⟨h1,vs',vb,vl,?_,h3⟩;rw[show lD l st=mF l ⟨st.op,st.a,st.b,st.c,st.d,st.depth,x⟩ by simp[lD,ho,hx,IB]];exact h2
theorem ahe(h:jT B w L s l vs vb vl)(hi:Inv l)(hl:l.jC.length<=100000)(st:St)(h0:¬st.op=0)(h2:¬st.op=2)(h3:¬st.op=3)(h4:¬st.op=4)(h5:¬st.op=5):Calls prog 118 #[Pt L 0,zN st] w (y9 B w L s vs vb vl (lD l st)):=by
 obtain⟨b1,b2⟩:=hi.jI;refine(Ja h b1 (by omega) (by omega) st.op st.a st.b st.c st.d st.depth st.ku).mono ?_;rintro e w' ⟨g1,vs',g2,g3⟩;refine⟨g1,vs',vb,vl,?_,g3⟩;rw[show lD l st=mF l st by simp[lD,h0,h2,h3,h4,h5]];exact g2
end
end
section
variable {B:Nat}{w:jo}{L:Nat}{s:jm}{l:Ls}{vs vb vl:jr}
def KL(B:Nat)(w:jo)(L:Nat)(s:jm)(vs vb vl:jr)(Q:Ls->Prop)(e:Ending)(w':jo):Prop:=
 e=.returned (.tuple #[])/\∃l' vs' kJ lq,jT B w' L s l' vs' kJ lq/\jV L w vs vb vl w' vs' kJ lq/\Q l'
theorem UW(HR:Hid (Calls prog 112 #[Pt L 0] w λe w'=>∃l' x0 x1 x2 x3 x4,jT B w' L s l' vs vb vl/\jV L w vs vb vl w' vs vb vl/\e=.returned (.tuple #[.agg #[.int .u8 x0,Im x1,Im x2,Im x3,Im x4,Im 0,Im 0],.bool false]))):
 Calls prog 72 #[Pt L 0] w (KL B w L s vs vb vl λl'=>l'.bad=true):=by
 go_enter func72,ntmps72;go_wp2_with fail;refine HR.out.mono ?_;rintro e w1 ⟨l',x0,x1,x2,x3,x4,h1,h2,rfl⟩;have c7:=h1.c7;have f7:=h1.fr 7;have hL:=h1.lt;have n1:¬L=w1.heap.size:=by omega
 have HP:Hid (∀o,jT B ((w1.setCell (Ad L 7) (.bool true)).alloc o) L s {l' with bad:=true} vs vb vl/\jV L w vs vb vl ((w1.setCell (Ad L 7) (.bool true)).alloc o) vs vb vl):=λo=>
  ⟨h1.Ir.alloc o,h2.trans ((jV.own L w1 vs vb vl 7 _).trans (jV.grow L _ _ _ _ (ah _ o none)))⟩
 clear h1 h2 HR;go_wp2_with fail;go_end0;exact⟨rfl,_,_,_,_,(HP.out _).1,(HP.out _).2,rfl⟩
theorem alb(l1:Ls)(hi:Inv l1)(hl:l1.jC.length<=100000)(st:St)(hd:st.depth=0)(ht:st.ku=0)
 (HR:Hid (Calls prog 112 #[Pt L 0] w λe w'=>jT B w' L s l1 vs vb vl/\jV L w vs vb vl w' vs vb vl/\e=.returned (.tuple #[zN st,.bool true]))):
 Calls prog 72 #[Pt L 0] w (KL B w L s vs vb vl λl'=>l'=lD l1 st):=by
 obtain⟨q,a,b,c,d,dp,t⟩:=st;simp only at hd ht;subst hd;subst ht;have HF:Hid (∀w1 o e w',jT B w1 L s l1 vs vb vl->jV L w vs vb vl w1 vs vb vl->y9 B (w1.alloc o) L s vs vb vl (lD l1 ⟨q,a,b,c,d,0,0⟩) e w'->KL B w L s vs vb vl (λl'=>l'=lD l1 ⟨q,a,b,c,d,0,0⟩) e w'):=by
  rintro w1 o e w' h1 h2 ⟨h3,vs',kJ,lq,h4,h5⟩;exact⟨h3,_,_,_,_,h4,h2.trans ((jV.grow L w1 _ _ _ (ah _ o none)).trans h5),rfl⟩
 by_cases o2:q=2
 .subst o2;go_enter func72,ntmps72;go_wp2_with fail;refine HR.out.mono ?_;rintro e w1 ⟨h1,h2,rfl⟩;have HC:=jB (λo=>ahi (h1.alloc o) hi hl ⟨2,a,b,c,d,0,0⟩ rfl);have HG:=jB (λo e w' (ha:y9 B (w1.alloc o) L s vs vb vl (lD l1 ⟨2,a,b,c,d,0,0⟩) e w')=>HF.out w1 o e w' h1 h2 ha);clear h1 h2 HR hi HF;simp only[zN];go_wp2_with fail;refine(HC.out _).mono ?_;intro e w2 ha;have hg:=HG.out _ _ _ ha;obtain⟨rfl,_⟩:=ha;have HH:=jB hg;clear hg;go_wp2_with fail;go_end0;exact HH.out
 by_cases o4:q=4
 .subst o4;go_enter func72,ntmps72;go_wp2_with fail;refine HR.out.mono ?_;rintro e w1 ⟨h1,h2,rfl⟩;have HC:=jB (λo=>ahh (h1.alloc o) hi hl ⟨4,a,b,c,d,0,0⟩ rfl);have HG:=jB (λo e w' (ha:y9 B (w1.alloc o) L s vs vb vl (lD l1 ⟨4,a,b,c,d,0,0⟩) e w')=>HF.out w1 o e w' h1 h2 ha);clear h1 h2 HR hi HF;simp only[zN];go_wp2_with fail;refine(HC.out _).mono ?_;intro e w2 ha;have hg:=HG.out _ _ _ ha;obtain⟨rfl,_⟩:=ha;have HH:=jB hg;clear hg;go_wp2_with fail;go_end0;exact HH.out
 by_cases o3:q=3
 .subst o3;go_enter func72,ntmps72;go_wp2_with fail;refine HR.out.mono ?_;rintro e w1 ⟨h1,h2,rfl⟩;have HC:=jB (λo=>ahf (h1.alloc o) hi hl ⟨3,a,b,c,d,0,0⟩ rfl);have HG:=jB (λo e w' (ha:y9 B (w1.alloc o) L s vs vb vl (lD l1 ⟨3,a,b,c,d,0,0⟩) e w')=>HF.out w1 o e w' h1 h2 ha);clear h1 h2 HR hi HF;simp only[zN];go_wp2_with fail;refine(HC.out _).mono ?_;intro e w2 ha;have hg:=HG.out _ _ _ ha;obtain⟨rfl,_⟩:=ha;have HH:=jB hg;clear hg;go_wp2_with fail;go_end0;exact HH.out
 by_cases o0:q=0
 .subst o0;go_enter func72,ntmps72;go_wp2_with fail;refine HR.out.mono ?_;rintro e w1 ⟨h1,h2,rfl⟩;have HC:=jB (λo=>ahg (h1.alloc o) hi hl ⟨0,a,b,c,d,0,0⟩ rfl);have HG:=jB (λo e w' (ha:y9 B (w1.alloc o) L s vs vb vl (lD l1 ⟨0,a,b,c,d,0,0⟩) e w')=>HF.out w1 o e w' h1 h2 ha);clear h1 h2 HR hi HF;simp only[zN];go_wp2_with fail;refine(HC.out _).mono ?_;intro e w2 ha;have hg:=HG.out _ _ _ ha;obtain⟨rfl,_⟩:=ha;have HH:=jB hg;clear hg;go_wp2_with fail;go_end0;exact HH.out
 by_cases o5:q=5
 .subst o5;go_enter func72,ntmps72;go_wp2_with fail;refine HR.out.mono ?_;rintro e w1 ⟨h1,h2,rfl⟩;have HC:=jB (λo=>ahj (h1.alloc o) hi hl ⟨5,a,b,c,d,0,0⟩ rfl);have HG:=jB (λo e w' (ha:y9 B (w1.alloc o) L s vs vb vl (lD l1 ⟨5,a,b,c,d,0,0⟩) e w')=>HF.out w1 o e w' h1 h2 ha);clear h1 h2 HR hi HF;simp only[zN];go_wp2_with fail;refine(HC.out _).mono ?_;intro e w2 ha;have hg:=HG.out _ _ _ ha;obtain⟨rfl,_⟩:=ha;have HH:=jB hg;clear hg;go_wp2_with fail;go_end0;exact HH.out
 have e0:(q==0)=false:=by simpa using o0
 have e2:(q==2)=false:=by simpa using o2
 have e3:(q==3)=false:=by simpa using o3
 have e4:(q==4)=false:=by simpa using o4
 have e5:(q==5)=false:=by simpa using o5
 go_enter func72,ntmps72;go_wp2_with fail;refine HR.out.mono ?_;rintro e w1 ⟨h1,h2,rfl⟩;have HC:=jB (λo=>ahe (h1.alloc o) hi hl ⟨q,a,b,c,d,0,0⟩ o0 o2 o3 o4 o5);have HG:=jB (λo e w' (ha:y9 B (w1.alloc o) L s vs vb vl (lD l1 ⟨q,a,b,c,d,0,0⟩) e w')=>HF.out w1 o e w' h1 h2 ha);clear h1 h2 HR hi HF;simp only[zN];go_wp2_with fail;refine(HC.out _).mono ?_;intro e w2 ha;have hg:=HG.out _ _ _ ha;obtain⟨rfl,_⟩:=ha;have HH:=jB hg;clear hg;go_wp2_with fail;go_end0;exact HH.out
def EW(bs:List UInt8)(l l':Ls):Prop:=match xk bs l with
 |none=>l'.bad=true
 |some (st,l1)=>l'=lD l1 st
theorem ald(h:jT B w L s l vs vb vl)(hi:Inv l)(p:Nat)(hp:l.pos=p)(hps:p<=s.size)(hs:s.size<=100000)(hl:l.jC.length<=p):
 Calls prog 72 #[Pt L 0] w (KL B w L s vs vb vl λl'=>EW s.data.toList l l'):=by
 have hlen:s.data.toList.length=s.size:=by simp
 by_cases he:p=s.size
 .have hn:xk s.data.toList l=none:=by
   unfold xk;rw[bV (by omega)]
  simp only[EW,hn];refine UW ((apy h (by omega)).mono ?_);rintro e w' ⟨rfl,hg⟩;exact⟨l,_,_,_,_,_,h.grow hg,jV.grow L w vs vb vl hg,rfl⟩
 .have hlt:p<s.size:=by omega
  have hb:s.data.toList[l.pos.toNat]? =some s[p]:=by
   have e1:l.pos.toNat=p:=by omega
   rw[e1,bU (by omega)]
   rfl
  have hpt:l.pos.toNat+1=p+1:=by omega
  have hR:=apA h p hp hlt hs _ rfl;cases hr:wI s.data.toList (Hx.shape s[p].toNat) (p+1) l.jE with
  |none=>
   have hn:xk s.data.toList l=none:=by
    unfold xk;rw[hb];simp only[hpt,hr];split<;>rfl
   simp only[EW,hn];refine UW (hR.mono ?_);rintro e w' ⟨l',h1,h2,⟨ns,p',sl',h3,_⟩|⟨_,_,rfl⟩⟩
   .rw[hr]at h3;cases h3
   .exact⟨l',_,_,_,_,_,h1,h2,rfl⟩
  |some r=>
   obtain⟨ns,p',sl'⟩:=r;cases hop:Hx.Ew s[p].toNat with
   |false=>
    have hn:xk s.data.toList l=none:=by
     unfold xk;rw[hb];simp[hop]
    simp only[EW,hn];refine UW (hR.mono ?_);rintro e w' ⟨l',h1,h2,⟨ns,p',sl',h3,_,rfl⟩|⟨h3,_⟩⟩
    .rw[hop];exact⟨l',_,_,_,_,_,h1,h2,rfl⟩
    .rw[hr]at h3;cases h3
   |true=>
    have hn:xk s.data.toList l=some (⟨s[p].toNat,ns.getD 0 0,ns.getD 1 0,ns.getD 2 0,ns.getD 3 0,0,0⟩,{l with pos:=p',jE:=sl'}):=by
     unfold xk;rw[hb];simp[hop,hpt,hr]
    have hok:=Hx.NC hn (by omega) hi.jE;simp only[EW,hn];refine alb {l with pos:=p',jE:=sl'} (hi.read hok.2.2.2.1 hok.2.2.2.2.1) (by show l.jC.length<=100000;omega) _ rfl rfl (hR.mono ?_);rintro e w' ⟨l',h1,h2,⟨ns',p'',sl'',h3,h4,rfl⟩|⟨h3,_⟩⟩
    .rw[hr]at h3;cases h3;subst h4;rw[hop];exact⟨h1,h2,rfl⟩
    .rw[hr]at h3;cases h3
end
end
section
open Go.RowKit
open Hx (St Bk Ls jO Inv IL)
attribute [local go_sem ↓] Go.wp_at_zero Go.wp_at_succ
attribute [local go_sem] kL
section
variable {B:Nat}{w:jo}{L:Nat}{s:jm}{l:Ls}{vs vb vl:jr}
theorem jV.below(h:jT B w L s l vs vb vl){w':jo}{vs' kJ lq:jr}(hm:jV L w vs vb vl w' vs' kJ lq):Below B w w':=by
 refine⟨hm.os,hm.tape,hm.output,hm.size,λk hk=>?_⟩;have hL:=h.lt;have hB:=h.bL;have aux:∀{v:jr}{e:jv}{sz n:Nat}{xs:List jr},w.ownsRow B e sz v n xs->some k≠v.ownBlock:=λho e=>by
  have:=(ho.lt k e.symm).1;omega
 exact hm.block k (by omega) (by omega) (aux h.jC) (aux h.jI) (aux h.jY)
def Og(bs:List UInt8)(g:Nat)(l:Ls):Prop:=
 (l.bad=true/\(lX bs).bad=true)\/(l.bad=false/\l=lX bs/\IL l/\l.pos<=bs.length)\/
 (Inv l/\0<=l.pos/\l.pos<=bs.length/\(l.jC.length:Int)<=l.pos/\(bs.length:Int)-l.pos<g/\uV bs g l=lX bs)
theorem aqL(bs:List UInt8):Og bs (bs.length+1) tC:=
 jh (jh ⟨Hx.ace,by simp[tC],by simp[tC],by simp[tC],by simp only[tC];omega,rfl⟩)
theorem aqM{bs:List UInt8}(hbs:bs.length<=100000){g:Nat}{l l':Ls}(hi:Inv l)(h0:0<=l.pos)(h1:l.pos<=bs.length)(h2:(l.jC.length:Int)<=l.pos)(h3:(bs.length:Int)-l.pos<(g+1:Nat))(h4:uV bs (g+1) l=lX bs)(ha:EW bs l l'):Og bs g l':=by
 have hn:¬(l.jI=[]\/l.bad=true):=λe=>e.elim hi.jI.1 (λe=>by rw[hi.bad]at e;cases e);unfold EW at ha;cases hr:xk bs l with
 |none=>
  rw[hr]at ha;refine ji ⟨ha,?_⟩;rw[<-h4];simp only[uV,jk hn,hr]
 |some q=>
  obtain⟨st,l1⟩:=q;rw[hr]at ha;simp only at ha;subst ha;rw[Hx.acP bs g l l1 st hi hr]at h4;obtain⟨g1,g2,g3,g4,g5,g6⟩:=Hx.NC hr h0 hi.jE;have hi1:Inv l1:=by rw[g6];exact hi.read g4 g5
  have hs1:l1.jC=l.jC:=by rw[g6]
  obtain⟨k1,k2⟩:=Hx.ab7 l1 st;cases hbb:(lD l1 st).bad with
  |true=>
   rw[Hx.acM bs g _ hbb]at h4;exact ji ⟨hbb,by rw[<-h4];exact hbb⟩
  |false=>
   rcases Hx.acf hi1 st g1 (by rw[hs1];omega) hbb with hv|hv
   .exact jh (jh ⟨hv,by rw[k2];omega,by rw[k2];exact g3,by rw[k2];rw[hs1]at k1;omega,by rw[k2];push_cast at h3;omega,h4⟩)
   .rw[Hx.acN bs g _ hv.jI]at h4;exact jh (ji ⟨hbb,h4,hv,by rw[k2];exact g3⟩)
structure AQ(w:jo)(C:Nat)(l:Ls):Prop where
 code:∃sb cap,uh w.heap.size w C 0 sb 0 cap l.jC
 jE:w.cell? (Ad C 1)=some (Im l.jE)
 jD:w.cell? (Ad C 2)=some (Im l.jD)
def SK(s:jm)(w:jo)(e:Ending)(w':jo):Prop:=
 Below w.heap.size w w'/\((vX s.data.toList=true/\∃C,w.heap.size<=C/\e=.returned (.tuple #[Pt C 0,Im 0])/\AQ w' C (lX s.data.toList))\/
  (vX s.data.toList=false/\e=.returned (.tuple #[.pointer none,Im 5])))
theorem aiX(h:jT B w L s l vs vb vl)(hpos:0<l.jC.length)(k:Nat)(T:jv):AQ ((w.drewN k).alloc (.cells #[vs,Im l.jE,Im l.jD] T)) w.heap.size l:=by
 have hb:∀j,((w.drewN k).alloc (.cells #[vs,Im l.jE,Im l.jD] T)).cell? (Ad w.heap.size j)=(#[vs,Im l.jE,Im l.jD]:Array jr)[j]? :=λj=>by
  have hh:((w.drewN k).alloc (.cells #[vs,Im l.jE,Im l.jD] T)).heap[w.heap.size]? =some (.cells #[vs,Im l.jE,Im l.jD] T):=aY (w.drewN k) _;exact jH hh
 have h':=(h.drewN k).alloc (.cells #[vs,Im l.jE,Im l.jD] T);have akI:l.jC[0]? =some l.jC[0]:=bU hpos;obtain⟨g,cap,e1,e2,_⟩:=h'.BQ akI;refine⟨⟨g,cap,?_,e2,?_,?_⟩,hb 1,hb 2⟩
 .show w.heap.size<((w.drewN k).alloc _).heap.size;rw[show∀(x:jo) o,(x.alloc o).heap.size=x.heap.size+1 fromλx o=>by simp];exact Nat.lt_succ_self _
 .rw[hb 0,e1];rfl
 .intro i st hst;obtain⟨g',cap',e1',_,_,_,_,_,hat,_⟩:=h'.BQ hst;rw[e1]at e1';cases e1';rw[gW];exact hat
theorem amr(w:jo)(s:jm)(hs:100000<s.size):Calls prog 31 #[.string s] w (SK s w):=by
 have d1:decide ((100000:Int)<(s.size:Int))=true:=by simp;omega
 have HT:Hid (vX s.data.toList=false):=by
  have:¬s.data.toList.length<=100000:=by simp;omega
  show _=_;simp only[vX,dO this,gK]
 go_enter func31,ntmps31;go_wp2_with fail;go_ret2;exact⟨dK _ w,jh ⟨HT.out,rfl⟩⟩
theorem ams(w:jo)(s:jm)(hs:s.size<=100000):Calls prog 31 #[.string s] w (SK s w):=by
 have d1:decide ((100000:Int)<(s.size:Int))=false:=by simp;omega
 have hbs:s.data.toList.length<=100000:=by simpa using hs
 have hlen:s.data.toList.length=s.size:=by simp
 go_enter func31,ntmps31;go_wp2_with fail;refine(anj w s).mono ?_;rintro e w1 ⟨L,rfl,hL,hg1,g,cap,hl1⟩;have HB:Hid (Below w.heap.size w w1):=⟨hg1.os,hg1.tape,hg1.output,hg1.size,λk hk=>hg1.block k hk (by simp)⟩;have HL:=jB hl1;clear hg1 hl1;go_wp2_with fail;go_loopg [] (s.data.toList.length+1) (λgg wr=>∃l vs vb vl,jT w.heap.size wr L s l vs vb vl/\Below w.heap.size w wr/\Og s.data.toList gg l)
 case atStart=>exact⟨_,_,_,_,HL.out,HB.out,aqL _⟩
 case round=>
  obtain⟨l,vs,vb,vl,h1,h2,h3⟩:=hrel;clear HL HB;obtain⟨ab,cb,rfl⟩:=AB h1.jI;obtain⟨as',cs',rfl⟩:=AB h1.jC;have c1:=h1.c1;have c2:=h1.c2;have c3:=h1.c3;have c5:=h1.c5;have c6:=h1.c6;have c7:=h1.c7;rcases h3 with⟨hb,hld⟩|⟨hb,hld,hf,hps⟩|⟨hi,p0,p1,p2,p3,p4⟩
  .have HT:Hid (vX s.data.toList=false):=by
    show _=_;simp only[vX,hld,je,iO,gK]
   have HB:=jB h2;rw[hb]at c7;clear h1 h2 hld;generalize l.jI.length=n at *;by_cases hn:n=0
   .subst hn;go_wp2_with fail;go_ret2;exact⟨HB.out,jh ⟨HT.out,rfl⟩⟩
   .have hn':decide ((0:Int)<(n:Int))=true:=by simp;omega
    go_wp2_with fail;go_ret2;exact⟨HB.out,jh ⟨HT.out,rfl⟩⟩
  .have hbl:l.jI.length=0:=by rw[hf.jI];rfl
   rw[hbl]at c3;rw[hb]at c7;have hLr:=h1.lt;have n1:¬L=wr.heap.size:=by omega
   have HB:=jB h2;have HC:Hid (∀k T,AQ ((wr.drewN k).alloc (.cells #[.slice as' l.jC.length cs',Im l.jE,Im l.jD] T)) wr.heap.size (lX s.data.toList)):=λk T=>by
    rw[<-hld];exact aiX h1 hf.sound.fits.pos k T
   by_cases hp:l.pos<s.size
   .have HT:Hid (vX s.data.toList=false):=by
     show _=_;have:¬(lX s.data.toList).pos=(s.data.toList.length:Int):=by rw[<-hld];omega
     simp only[vX,dO this,iO]
    have d2:=dR hp;clear h1 h2 hld hf;generalize l.pos=pos at *;go_wp2_with fail;go_ret2;exact⟨HB.out,jh ⟨HT.out,rfl⟩⟩
   .have HT:Hid (vX s.data.toList=true):=by
     show _=_;have e1:(lX s.data.toList).pos=(s.data.toList.length:Int):=by rw[<-hld];omega
     have e2:(lX s.data.toList).bad=false:=by rw[<-hld];exact hb
     simp only[vX,dR e1,dR hbs,e2,Bool.not_false,Bool.and_self]
    have d2:=dO hp;clear h1 h2 hld hf;generalize l.pos=pos at *;generalize l.jE=sl at *;generalize l.jD=jD at *;generalize l.jC.length=nst at *;go_wp2_with fail;refine nJ 13 (by kernel_rfl) (by kernel_rfl) ?_;simp only[aC,aO,aG,aQ];repeat (go_big_quiet_step (fail))
    refine bF ?_;intro _ hw';obtain⟨k3,hw''⟩:=hw';subst hw'';go_wp2_with fail;go_ret2;refine⟨?_,ji ⟨HT.out,wr.heap.size,by have:=HB.out.size;omega,rfl,HC.out k3 _⟩⟩;have hb3:Below w.heap.size w (wr.drewN k3):=HB.out.trans ⟨rfl,rfl,rfl,aj _,λ_ _=>rfl⟩;exact hb3.alloc HB.out.size _
  .have hbp:=List.length_pos_iff.2 hi.jI.1;have hn':decide ((0:Int)<(l.jI.length:Int))=true:=by simp;omega
   rw[hi.bad]at c7;obtain⟨p,hp⟩:=bI p0;obtain⟨g',rfl⟩:∃g',gk=g'+1:=⟨gk-1,by omega⟩;have HC:=jB (ald h1 hi p hp (by omega) hs (by omega));have HN:Hid (∀e w',KL w.heap.size wr L s (.slice as' l.jC.length cs') (.slice ab l.jI.length cb) vl (λl'=>EW s.data.toList l l') e w'->e=.returned (.tuple #[])/\∃l' vs' kJ lq,jT w.heap.size w' L s l' vs' kJ lq/\Below w.heap.size w w'/\Og s.data.toList g' l'):=by
    rintro e w' ⟨q1,l',vs',kJ,lq,q2,q3,q4⟩;exact⟨q1,l',vs',kJ,lq,q2,h2.trans (jV.below h1 q3),aqM hbs hi p0 p1 p2 p3 p4 q4⟩
   clear h1 h2 hi p4;generalize l.jI.length=n at *;go_wp2_with fail;refine HC.out.mono ?_;intro e w2 hq;obtain⟨rfl,hq2⟩:=HN.out _ _ hq;have HQ:=jB hq2;clear hq hq2 HC HN;go_wp2_with fail;go_roundg g'
   case measure=>omega
   case rel=>exact HQ.out
theorem acQ(w:jo)(s:jm):Calls prog 31 #[.string s] w (SK s w):=by
 by_cases hs:s.size<=100000
 .exact ams w s hs
 .exact amr w s (by omega)
end
end
end Go.Proofs.YthllhabjfchgiaaGreatDoor
