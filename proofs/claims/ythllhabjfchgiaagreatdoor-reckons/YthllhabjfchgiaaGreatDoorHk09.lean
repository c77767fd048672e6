import Derived.Test.YthllhabjfchgiaaGreatDoorHk08
set_option maxRecDepth 100000
set_option maxHeartbeats 8000000
set_option linter.unusedSimpArgs false
namespace Go.Proofs.YthllhabjfchgiaaGreatDoor
open _root_.Go.Proofs.Tryz
section
open Go.RowKit
open Hx (Rd Pk Vw St Mc jJ Out)
def Cj(v:Vw)(jB:List St)(n:Nat)(fuel x0 x1 x2 x3 x4 x5 x6 x7:Int):Out:=
 if zZ v=true then Hx.runs v jB [x0,x1,x2,x3,x4,x5,x6,x7] fuel.toNat 0 (sH x0 x1 x2 x3 x4 x5 x6 x7 n)else ⟨3,[x0,x1,x2,x3,x4,x5,x6,x7],[]⟩
theorem Qw{w:jk}{b b':Nat}{e:jo}{size:Nat}{u:jm}{n:Nat}{xs:List jm}(h:w.ownsRow b e size u n xs)(hb:b'<=b):w.ownsRow b' e size u n xs:=by
 refine⟨h.1,?_⟩;rcases h.2 with h|⟨g,cap,cur,h1,h2,h3⟩
 .exact jf h
 .exact je ⟨g,cap,cur,h1,by omega,h3⟩
theorem afe(st:Int)(va:jm)(l:List Int):vk st va l=vk st va [l.getD 0 0,l.getD 1 0,l.getD 2 0,l.getD 3 0,l.getD 4 0,l.getD 5 0,l.getD 6 0,l.getD 7 0]:=by
 simp[vk]
set_option maxRecDepth 1000000 in
theorem arU(w:jk)(cb co sb so cap n:Nat)(jB:List St)(v:Vw)(ar af aa:Option Addr)(nr cr nf cf na ca:Nat)(x0 x1 x2 x3 x4 x5 x6 x7 fuel:Int)
 (hfit:Hx.Fits jB n)(h8:8<=n)(hn:n<=100000)(hc:uw w.heap.size w cb co sb so cap jB)(hsl:w.cell? (Ad cb (co+1))=some (Im n))
 (hv:yP w.heap.size w ar af aa nr nf na v)(hT:vJ w)(hone:1<w.heap.size)(hx:∀x∈[x0,x1,x2,x3,x4,x5,x6,x7],jJ x)(hfm:fuel<=9223372036854775807):
 Calls prog 16 #[Pt cb co,.agg #[.slice ar nr cr,.slice af nf cf,.slice aa na ca],.agg #[Im x0,Im x1,Im x2,Im x3,Im x4,Im x5,Im x6,Im x7],Im fuel] w λe w'=>
  ∃va,e=.returned (vk (Cj v jB n fuel x0 x1 x2 x3 x4 x5 x6 x7).status va (Cj v jB n fuel x0 x1 x2 x3 x4 x5 x6 x7).jF)/\
   w'.ownsRow w.heap.size 76 2 va (Cj v jB n fuel x0 x1 x2 x3 x4 x5 x6 x7).jO.length (sD (Cj v jB n fuel x0 x1 x2 x3 x4 x5 x6 x7).jO)/\Below w.heap.size w w':=by
 generalize ho:Cj v jB n fuel x0 x1 x2 x3 x4 x5 x6 x7=o;generalize hW:boxes w ar af aa nr cr nf cf na ca x0 x1 x2 x3 x4 x5 x6 x7=W;have hsz:W.heap.size=w.heap.size+1+1+1:=by rw[<-hW];exact ajw ..
 have hold:w.grownBy W none:=by rw[<-hW];exact ajt ..
 have PK:∀k,W.cell? (Ad w.heap.size k)=#[Value.slice ar nr cr,.slice af nf cf,.slice aa na ca][k]? :=λk=>by rw[<-hW];exact ajx ..
 have Ep:IQ W w.heap.size x0 x1 x2 x3 x4 x5 x6 x7:=by rw[<-hW];exact aju w ar af aa nr cr nf cf na ca x0 x1 x2 x3 x4 x5 x6 x7
 have hres:xk W w.heap.size:=by rw[<-hW];exact ajv ..
 have hcell:∀x:Addr,x.block<w.heap.size->W.cell? x=w.cell? x:=λx hx=>bQ (hold.block _ hx (by simp));have hbelow:=(dK _ _).grown hold (aj _) (by simp);have hvW:yP W.heap.size W ar af aa nr nf na v:=by
  have:=hv.keep hcell;exact⟨λi r hr=>by obtain⟨b,o,e,hb,hp⟩:=this.pW i r hr;exact⟨b,o,e,by omega,hp⟩,λi r hr=>by obtain⟨b,o,e,hb,hp⟩:=this.qK i r hr;exact⟨b,o,e,by omega,hp⟩,λi r hr=>by obtain⟨b,o,e,hb,hp⟩:=this.qJ i r hr;exact⟨b,o,e,by omega,hp⟩,this.MZ,this.MW,this.MV,this.Ij⟩
 have hTW:vJ W:=λj hj=>by rw[hcell _ (by show 1<_;omega)];exact hT j hj
 have Ud:=hc.keep hbelow;have hcW:uw W.heap.size W cb co sb so cap jB:=⟨by have:=hc.GR;omega,by have:=hc.F9;omega,Ud.slice,Ud.step⟩;have auP:W.cell? (Ad cb (co+1))=some (Im n):=by rw[hcell _ hc.GR];exact hsl
 have RX:Hid (∀(a':Act)(w1:jk)(st:Int)(va:jm)(y0 y1 y2 y3 y4 y5 y6 y7:Int)(jO:List (Int×Int)),Below W.heap.size W w1->xk w1 w.heap.size->w1.ownsRow W.heap.size 76 2 va jO.length (sD jO)->(∃a n c,va=.slice a n c)->
  a'.tmps.getD 8 undef=Pt (w.heap.size+1+1) 0->a'.defers=[]->o.status=st->vk st va o.jF=vk st va [y0,y1,y2,y3,y4,y5,y6,y7]->o.jO=jO->
  bodyPost prog Tryz.f16 (λe w'=>∃va,e=.returned (vk o.status va o.jF)/\w'.ownsRow w.heap.size 76 2 va o.jO.length (sD o.jO)/\Below w.heap.size w w') .ret a' (EC w1 w.heap.size st va y0 y1 y2 y3 y4 y5 y6 y7)):=by
  rintro a' w1 st va y0 y1 y2 y3 y4 y5 y6 y7 jO hb1 hr1 hown ⟨IX,nn,cc,rfl⟩ ht hd rfl MH rfl;refine cu (v:=vk o.status (.slice IX nn cc) [y0,y1,y2,y3,y4,y5,y6,y7]) (ap5 w1 w.heap.size hr1 o.status IX nn cc y0 y1 y2 y3 y4 y5 y6 y7 a'.tmps ht) hd ⟨.slice IX nn cc,by rw[MH],?_,?_⟩
  .have h1:=hown.kept (aeY w1 w.heap.size o.status (.slice IX nn cc) y0 y1 y2 y3 y4 y5 y6 y7) (by
    cases hb:(Value.slice IX nn cc).ownBlock with
    |none=>exact jf rfl
    |some g=>
     right;have:=(hown.lt g hb).1;simp;omega)
   exact Qw h1 (by omega)
  .refine(hbelow.trans (hb1.mono (by omega))).trans ((dK _ _).grown (aeY w1 w.heap.size o.status (.slice IX nn cc) y0 y1 y2 y3 y4 y5 y6 y7) ?_ ?_)
   .have:=hb1.size;omega
   .intro k hk;cases hk;omega
 have e3:w.heap.size+1+1<W.heap.size:=by omega
 have wW:Hid (∀k,Calls prog 49 #[.agg #[.slice ar nr cr,.slice af nf cf,.slice aa na ca],.agg #[Im x0,Im x1,Im x2,Im x3,Im x4,Im x5,Im x6,Im x7],Im n] (W.drewN k) λe w'=>
  e=.returned (Pt (W.heap.size+1+1+1) 0)/\Below W.heap.size W w'/\
  (Good v->kQ W.heap.size (W.heap.size+4) w' (W.heap.size+1+1+1) (W.heap.size+1+1) v (sH x0 x1 x2 x3 x4 x5 x6 x7 n))):=λk=>by
  refine(aom ar af aa nr cr nf cf na ca x0 x1 x2 x3 x4 x5 x6 x7 n (W.drewN k) hn h8).mono ?_;rintro e w' ⟨h1,h2,h3⟩;refine⟨h1,(below_drewN (dK _ _) k).trans h2,λhgood=>h3 W.heap.size v (by omega) (aj _) (λj hj=>hTW j hj) (hvW.keep (λ_ _=>rfl)) hgood hx⟩
 have b0:=PK 0;have b1:=PK 1;have b2:=PK 2;simp only[List.getElem?_toArray,iY,dw]at b0 b1 b2;have g0:=Ep 0 (by omega);have g1:=Ep 1 (by omega);have g2:=Ep 2 (by omega);have g3:=Ep 3 (by omega);have g4:=Ep 4 (by omega);have g5:=Ep 5 (by omega);have g6:=Ep 6 (by omega);have g7:=Ep 7 (by omega);simp only[iR,iT]at g0 g1 g2 g3 g4 g5 g6 g7;have HW:=jA hW;have HSZ:=jA hsz;have HO:=jA ho;clear hW hold PK hcell hv hc hsl hT Ud hsz ho;generalize hvv:Value.agg #[.slice ar nr cr,.slice af nf cf,.slice aa na ca]=vv0;generalize hrv:Value.agg #[Im x0,Im x1,Im x2,Im x3,Im x4,Im x5,Im x6,Im x7]=rv0;subst hvv hrv;go_enter func16,ntmps16;go_wp2_with fail;rw[show((w.alloc (Obj.cells #[.slice ar nr cr,.slice af nf cf,.slice aa na ca] 25)).alloc
  (Obj.cells #[Im x0,Im x1,Im x2,Im x3,Im x4,Im x5,Im x6,Im x7] 26)).alloc
  (Obj.cells #[.int .u8 0,Nl,Im 0,Im 0,Im 0,Im 0,Im 0,Im 0,Im 0,Im 0] 35)=W from HW.out]
 refine aui (λl=>.seq .skip (y8 Tryz.f16 l)) (ahM W.heap.size (W.heap.size+4) (W.heap.size+1+1+1) (W.heap.size+1+1) v cb co sb so cap jB n w.heap.size [x0,x1,x2,x3,x4,x5,x6,x7] o (.agg #[.slice ar nr cr,.slice af nf cf,.slice aa na ca]) (.agg #[Im x0,Im x1,Im x2,Im x3,Im x4,Im x5,Im x6,Im x7]) W) arT ?hf ?first ?pass
 case hf=>
  intro l a1 w1 hJ;have hl:l=0\/l=1:=by
   rcases l with _|_|l
   .exact jf rfl
   .exact je rfl
   .exact hJ.elim
  clear hJ;rcases hl with rfl|rfl
  .show _=_
   kernel_rfl
  .show _=_
   kernel_rfl
 case pass=>
  intro l a1 w1 hJ;rcases l with _|_|l
  .obtain⟨st,ha,hos,hr,hb⟩:=hJ;refine wp_seq (wp_skip ?_);refine ar9 a1 ha (Ep.keep hb (by omega)) hr _ ?_;intro a' ht hd;have:=RX.out a' w1 st (Nl) x0 x1 x2 x3 x4 x5 x6 x7 [] hb hr (fK _ _ _ _) ⟨_,_,_,rfl⟩ ht hd (by rw[hos]) (by rw[hos]) (by rw[hos]);exact this
  .obtain⟨fuel1,k1,m1,ha,hg,hb⟩:=hJ;refine wp_seq (wp_skip ?_);refine afy hfit h8 e3 a1 ha hg _ ?_ ?_ ?_
   .intro a' w' fuel' k' m' h1 h2 h3 h4 h5;refine⟨⟨fuel',k',m',h1,h2,hb.trans h3⟩,?_⟩;show 1+(intOf (a'.tmps.getD 3 undef)).toNat<1+(intOf (a1.tmps.getD 3 undef)).toNat;rw[ZN h1,ZN ha];simp only[intOf];omega
   .intro a' w' st h1 h2 h3 h4;refine⟨⟨st,h1,h2,h3,hb.trans h4⟩,?_⟩;show 0<1+(intOf (a1.tmps.getD 3 undef)).toNat;omega
   .intro a' w2 va h1 h2 h3 h4 h5 h6 h7;have:=RX.out a' w2 0 va _ _ _ _ _ _ _ _ m1.jO (hb.trans h4) h5 (Qw h2 (by omega)) h3 h6 h7 (by rw[h1]) (by rw[h1];exact afe _ _ _) (by rw[h1]);exact this
  .exact hJ.elim
 case first=>
  go_wp2_with fail;refine nP 6 (by kernel_rfl) (by kernel_rfl) ?_;simp only[aC,aO,aG,aQ];repeat (go_big_quiet_step (fail))
  refine bF ?_;intro _ hw';obtain⟨n3,hw''⟩:=hw';subst hw'';go_wp2_with fail;refine(wW.out n3).mono ?_;rintro e w1 ⟨rfl,hb1,hm1⟩;have v0:=(hb1.cell (p:=(Ad w.heap.size 0)) (by show w.heap.size<_;omega)).trans b0;have v1:=(hb1.cell (p:=(Ad w.heap.size 1)) (by show w.heap.size<_;omega)).trans b1;have v2:=(hb1.cell (p:=(Ad w.heap.size 2)) (by show w.heap.size<_;omega)).trans b2;have HV:=jA (amo cr cf ca (hvW.keep (λx hx=>hb1.cell hx)) hb1.size);have HB1:=jA hb1;have HM1:=jA hm1;clear hb1 hm1;go_wp2_with fail;refine(HV.out).mono ?_;rintro e w2 ⟨rfl,hb2⟩;have HB2:=jA hb2;clear hb2;cases hok:zZ v with
  |false=>
   have HF:Hid (o=⟨3,[x0,x1,x2,x3,x4,x5,x6,x7],[]⟩):=by
    show o=_;rw[<-HO.out];simp[Cj,hok]
   clear hok;go_wp2;go_step3;have hb:=HB1.out.trans (HB2.out.mono HB1.out.size);refine⟨3,?_,HF.out,hres.keep hb e3,hb⟩;unfold DN
   (repeat apply Exists.intro)
   rfl
  |true=>
   have HF:Hid (Hx.runs v jB [x0,x1,x2,x3,x4,x5,x6,x7] fuel.toNat 0 (sH x0 x1 x2 x3 x4 x5 x6 x7 n)=o):=by
    show _=o;rw[<-HO.out];simp[Cj,hok]
   have hgood:=YL hok;have HG:=jA hgood;clear hok hgood;go_wp2;go_step3;rename_i hK;refine hK _ _ ?_;have hb:=HB1.out.trans (HB2.out.mono HB1.out.size);have hm1:=HM1.out HG.out;have hg:w1.grownBy w2 none:=⟨HB2.out.os,HB2.out.tape,HB2.out.output,HB2.out.size,λk hk _=>HB2.out.block k hk⟩;have hm2:=hm1.grow hg;refine afy (B:=W.heap.size) (C:=W.heap.size+4) (M:=W.heap.size+1+1+1) (SB:=W.heap.size+1+1) (v:=v) (jB:=jB) (H:=w.heap.size) (cb:=cb) (co:=co) (sb:=sb) (so:=so) (cap:=cap) (fuel:=fuel) (k:=0) (m:=sH x0 x1 x2 x3 x4 x5 x6 x7 n) (o:=o) (jF:=[x0,x1,x2,x3,x4,x5,x6,x7]) (vv:=.agg #[.slice ar nr cr,.slice af nf cf,.slice aa na ca]) (rv:=.agg #[Im x0,Im x1,Im x2,Im x3,Im x4,Im x5,Im x6,Im x7]) hfit h8 e3 _ ?_ ?_ _ ?_ ?_ ?_
   .unfold nH
    (repeat apply Exists.intro)
    rfl
   .exact⟨hm2,hcW.keep hb,hres.keep hb e3,by simp[sH];omega,by simp[sH],by omega,by have:=hfit.pos;omega,hfm,HF.out⟩
   .intro a' w' fuel' k' m' h1 h2 h3 _ _;exact⟨fuel',k',m',h1,h2,hb.trans h3⟩
   .intro a' w' st h1 h2 h3 h4;exact⟨st,h1,h2,h3,hb.trans h4⟩
   .intro a' w3 va h1 h2 h3 h4 h5 h6 h7;have:=RX.out a' w3 0 va _ _ _ _ _ _ _ _ (sH x0 x1 x2 x3 x4 x5 x6 x7 n).jO (hb.trans h4) h5 (Qw h2 (by omega)) h3 h6 h7 (by rw[h1]) (by rw[h1];exact afe _ _ _) (by rw[h1]);exact this
end
namespace Hx
open Go.RowKit
structure Gs(v:Vw)(jO:List (Int×Int)):Prop where
 each:∀a∈jO,(∃r∈v.pW,r.id=a.1)/\((∃p∈v.qK,p.seq=a.2)\/(∃p∈v.qJ,p.seq=a.2))
 len:jO.length<=256
def Sn(v:Vw)(jF:List Int)(o:Out):Prop:=(o.status=0/\Gs v o.jO)\/((o.status=1\/o.status=2)/\o.jF=jF/\o.jO=[])
theorem ahY(v:Vw):Gs v []:=⟨λ_ h=>(dU h).elim,by simp⟩
theorem ajL(s:St)(b:Bool)(m:Mc):(choose s b m).jO=m.jO:=by
 unfold choose;split<;>rfl
theorem aua(v:Vw)(s:St)(m:Mc):(work v s m).jO=m.jO:=by
 unfold work;repeat' split
 all_goals first|rfl|exact ajL _ _ _
theorem Xc(s:St)(k:Int)(m:Mc):(kS s k m).1.jO=m.jO:=by
 unfold kS;split<;>rfl
theorem apQ{v:Vw}{i j:Int}{m m':Mc}(h:push v i j m=some m')(ha:Gs v m.jO):Gs v m'.jO:=by
 unfold push at h;split at h
 .rename_i r p hr hp;split at h
  .cases h
  .rename_i hl;cases h;refine⟨λa h=>?_,?_⟩
   .rcases List.mem_append.1 h with h|h
    .exact ha.each a h
    .rw[cO]at h;subst h;refine⟨⟨r,Vw.adC hr,rfl⟩,?_⟩;rcases Vw.adB hp with h|h
     .exact jf ⟨p,h,rfl⟩
     .exact je ⟨p,h,rfl⟩
   .have:=ha.len;simp only[aA,eG];omega
 .cases h;exact ha
theorem asW{v:Vw}{S:List St}{jF:List Int}{k:Nat}{s:St}{m:Mc}(ha:Gs v m.jO):
 (∀o,step v S jF k s m=.inl o->Sn v jF o)/\(∀k' m',step v S jF k s m=.inr (k',m')->Gs v m'.jO):=by
 unfold step;by_cases h1:s.op=1
 .simp only[jh h1];exact⟨λo h=>by cases h;exact jf ⟨rfl,ha⟩,λk' m' h=>by cases h⟩
 by_cases h2:s.op=2
 .simp only[jg h1,jh h2];exact⟨λo h=>(by cases h),λk' m' h=>by cases h;exact ha⟩
 by_cases h3:s.op=3
 .simp only[jg h1,jg h2,jh h3];exact⟨λo h=>(by cases h),λk' m' h=>by cases h;exact ha⟩
 by_cases h4:s.op=4
 .simp only[jg h1,jg h2,jg h3,jh h4];exact⟨λo h=>(by cases h),λk' m' h=>by cases h;rw[Xc];exact ha⟩
 by_cases h5:s.op=5
 .simp only[jg h1,jg h2,jg h3,jg h4,jh h5];split
  .split
   .exact⟨λo h=>(by cases h),λk' m' h=>by cases h;rw[Xc];exact ha⟩
   .exact⟨λo h=>by cases h;exact je ⟨je rfl,rfl,rfl⟩,λk' m' h=>by cases h⟩
  .exact⟨λo h=>(by cases h),λk' m' h=>by cases h;exact ha⟩
 by_cases h0:s.op=0
 .simp only[jg h1,jg h2,jg h3,jg h4,jg h5,jh h0];split
  .exact⟨λo h=>(by cases h),λk' m' h=>by cases h;rw[Xc];exact ha⟩
  .exact⟨λo h=>by cases h;exact je ⟨je rfl,rfl,rfl⟩,λk' m' h=>by cases h⟩
 by_cases G5:s.op=36
 .simp only[jg h1,jg h2,jg h3,jg h4,jg h5,jg h0,jh G5];cases hp:push v (m.get s.a) (m.get s.b) m with
  |none=>exact⟨λo h=>by cases h;exact je ⟨jf rfl,rfl,rfl⟩,λk' m' h=>by cases h⟩
  |some m1=>exact⟨λo h=>(by cases h),λk' m' h=>by cases h;exact apQ hp ha⟩
 .simp only[jg h1,jg h2,jg h3,jg h4,jg h5,jg h0,jg G5];exact⟨λo h=>(by cases h),λk' m' h=>by cases h;rw[aua];exact ha⟩
theorem afA(v:Vw)(S:List St)(jF:List Int):∀(f:Nat)(k:Int)(m:Mc),Gs v m.jO->Sn v jF (runs v S jF f k m)
 |0,_,_,_=>je ⟨je rfl,rfl,rfl⟩
 |f+1,k,m,ha=>by
  simp only[runs];cases hk:S[k.toNat]?with
  |none=>exact je ⟨je rfl,rfl,rfl⟩
  |some s=>
   obtain⟨g1,g2⟩:=asW (v:=v) (S:=S) (jF:=jF) (k:=k.toNat) (s:=s) ha;simp only;cases hs:step v S jF k.toNat s m with
   |inl o=>exact g1 o hs
   |inr p=>
    obtain⟨k',m'⟩:=p;exact afA v S jF f k' m' (g2 k' m' hs)
end Hx
section
open Go.RowKit
open Hx (St Bk Ls jJ Inv)
attribute [local go_sem ↓] Go.wp_at_zero Go.wp_at_succ
attribute [local go_sem] kP
section
variable {B:Nat}{w:jk}{L:Nat}{s:ji}{l:Ls}{vs vb vl:jm}
def zl(B:Nat)(w:jk)(L:Nat)(s:ji)(vs vb vl:jm)(l':Ls)(e:Ending)(w':jk):Prop:=
 e=.returned (.tuple #[])/\∃vs' kL lC,jS B w' L s l' vs' kL lC/\jT L w vs vb vl w' vs' kL lC
def zX(st:St):jm:=.agg #[.int .u8 st.op,Im st.a,Im st.b,Im st.c,Im st.d,Im st.depth,Im st.jY]
section
theorem ahU(h:jS B w L s l vs vb vl)(hi:Inv l)(hl:l.jB.length<=100000)(st:St)(ho:st.op=2):Calls prog 113 #[Pt L 0,zX st] w (zl B w L s vs vb vl (lH l st)):=by
 obtain⟨b1,b2⟩:=hi.jH;refine(aee h b1 (by omega) (by omega) st.op st.a st.b st.c st.d st.depth st.jY).mono ?_;rintro e w' ⟨h1,vs',kL,h2,h3⟩;refine⟨h1,vs',kL,vl,?_,h3⟩;rw[show lH l st=xA l st by simp[lH,ho]];exact h2
theorem ahT(h:jS B w L s l vs vb vl)(hi:Inv l)(hl:l.jB.length<=100000)(st:St)(ho:st.op=4):Calls prog 114 #[Pt L 0,zX st] w (zl B w L s vs vb vl (lH l st)):=by
 obtain⟨b1,b2⟩:=hi.jH;have h8:=hi.eight;by_cases hx:l.jV.length=8
 .refine(ao1 h hx st.op st.a st.b st.c st.d st.depth st.jY).mono ?_;rintro e w' ⟨h1,h2,h3⟩;refine⟨h1,vs,vb,vl,?_,h3⟩;rw[show lH l st={l with bad:=true} by simp[lH,ho,hx]];exact h2
 .refine(ao2 h b1 (by omega) (by omega) (by omega) st.op st.a st.b st.c st.d st.depth st.jY).mono ?_;rintro e w' ⟨h1,vs',kL,lC,h2,h3⟩;refine⟨h1,vs',kL,lC,?_,h3⟩;rw[show lH l st=Hy l st by simp[lH,ho,hx]];exact h2
theorem ahR(h:jS B w L s l vs vb vl)(hi:Inv l)(hl:l.jB.length<=100000)(st:St)(ho:st.op=3):Calls prog 115 #[Pt L 0,zX st] w (zl B w L s vs vb vl (lH l st)):=by
 obtain⟨b1,b2⟩:=hi.jH;have b0:=List.length_pos_iff.2 b1;by_cases hx:l.jH.length=1
 .refine(ajZ h hx st.op st.a st.b st.c st.d st.depth st.jY).mono ?_;rintro e w' ⟨h1,h2,h3⟩;refine⟨h1,vs,vb,vl,?_,h3⟩;rw[show lH l st={l with bad:=true} by simp[lH,ho,hx]];exact h2
 have hb2:2<=l.jH.length:=by omega
 have G6:l.jH.length<=900000:=by omega
 have Uh:l.jB.length<=900000:=by omega
 have h89:l.jV.length<=900000:=by have:=hi.eight;omega
 obtain⟨init,bo,b,e⟩:=hi.split2 hx;have hc:=hi.chain;rw[e,Hx.zW]at hc;obtain⟨o,so,c1,c2,c3,c4,c5⟩:=hc;have ht:=Hx.Rl e;have hto:l.top.opener=o:=by rw[ht,c1]
 by_cases hy:0<l.top.other
 .refine(aj0 h hb2 G6 hy st.op st.a st.b st.c st.d st.depth st.jY).mono ?_;rintro e w' ⟨h1,h2,h3⟩;refine⟨h1,vs,vb,vl,?_,h3⟩;rw[show lH l st={l with bad:=true} by simp[lH,ho,hy]];exact h2
 by_cases hz:so.op=2
 .refine(ajX h hb2 G6 Uh hy o so c3 hto hz st.op st.a st.b st.c st.d st.depth st.jY).mono ?_;rintro e w' ⟨h1,vs',kL,lC,h2,h3⟩;refine⟨h1,vs',kL,lC,?_,h3⟩;rw[show lH l st=Ec l st o so by simp[lH,ho,hx,hy,hto,c3,hz]];exact h2
 .refine(aj1 h hb2 G6 hy o so c3 hto hz st.op st.a st.b st.c st.d st.depth st.jY).mono ?_;rintro e w' ⟨h1,h2,h3⟩;refine⟨h1,vs,vb,vl,?_,h3⟩;rw[show lH l st={l with bad:=true} by simp[lH,ho,hx,hy,hto,c3,hz]];exact h2
theorem ahS(h:jS B w L s l vs vb vl)(hi:Inv l)(hl:l.jB.length<=100000)(st:St)(ho:st.op=0):Calls prog 116 #[Pt L 0,zX st] w (zl B w L s vs vb vl (lH l st)):=by
 obtain⟨b1,b2⟩:=hi.jH;have b0:=List.length_pos_iff.2 b1;have h8:=hi.eight;by_cases hx:l.jH.length=1
 .refine(akk h hx (by omega) st.op st.a st.b st.c st.d st.depth st.jY).mono ?_;rintro e w' ⟨h1,vs',kL,lC,h2,h3⟩;refine⟨h1,vs',kL,lC,?_,h3⟩;rw[show lH l st=Am l by simp[lH,ho,hx]];exact h2
 have hb2:2<=l.jH.length:=by omega
 have G6:l.jH.length<=900000:=by omega
 have Uh:l.jB.length<=900000:=by omega
 have h89:l.jV.length<=900000:=by have:=hi.eight;omega
 obtain⟨init,bo,b,e⟩:=hi.split2 hx;have hc:=hi.chain;rw[e,Hx.zW]at hc;obtain⟨o,so,c1,c2,c3,c4,c5⟩:=hc;have ht:=Hx.Rl e;have hto:l.top.opener=o:=by rw[ht,c1]
 by_cases hz:so.op=4
 .have hlo:=hi.jV;rcases c4 with⟨a1,a2,a3,a4,_⟩|⟨a1,_⟩|⟨a1,_⟩
  .have alo:l.jV=((Hx.kX l.jB o).reverse.map Int.ofNat)++[(o:Int)]:=by rw[hlo,a4];simp
   refine(akn h hb2 G6 o so c3 hto hz _ _ alo h89 Uh st.op st.a st.b st.c st.d st.depth st.jY).mono ?_;rintro e w' ⟨h1,vs',kL,lC,h2,h3⟩;refine⟨h1,vs',kL,lC,?_,h3⟩;rw[show lH l st=Ap l st o so by simp[lH,ho,hx,hto,c3,hz]];exact h2
  .omega
  .omega
 .rcases c4 with⟨a1,_⟩|⟨a1,a2,_⟩|⟨a1,x,t,a2,a3,a4,a5,_⟩
  .exact jl a1 hz
  .have hy:¬0<l.top.other:=by rw[ht,a2];omega
   refine(akl h hb2 G6 o so c3 hto hz hy st.op st.a st.b st.c st.d st.depth st.jY).mono ?_;rintro e w' ⟨h1,vs',kL,lC,h2,h3⟩;refine⟨h1,vs',kL,lC,?_,h3⟩;rw[show lH l st=tX l o so l.jH.dropLast l.top by simp[lH,ho,hx,hto,c3,hz,hy]];exact h2
  .have hox:l.top.other=x:=by rw[ht,a2]
   have hy:0<l.top.other:=by rw[hox];omega
   refine(akm h hb2 G6 o so c3 hto hz x t a5 (by omega) hox st.op st.a st.b st.c st.d st.depth st.jY).mono ?_;rintro e w' ⟨h1,vs',kL,lC,h2,h3⟩;refine⟨h1,vs',kL,lC,?_,h3⟩;have hx0:0<x:=by omega
   rw[show lH l st=tX l x t l.jH.dropLast l.top by simp[lH,ho,hx,hto,c3,hz,hox,hx0,a5]];exact h2
theorem ahV(h:jS B w L s l vs vb vl)(hi:Inv l)(hl:l.jB.length<=100000)(st:St)(ho:st.op=5):Calls prog 117 #[Pt L 0,zX st] w (zl B w L s vs vb vl (lH l st)):=by
 obtain⟨b1,b2⟩:=hi.jH;have h8:=hi.eight;rcases List.eq_nil_or_concat l.jV with hx|⟨init,x,hx⟩
 .refine(asJ h hx st.op st.a st.b st.c st.d st.depth st.jY).mono ?_;rintro e w' ⟨h1,h2,h3⟩;refine⟨h1,vs,vb,vl,?_,h3⟩;rw[show lH l st={l with bad:=true} by simp[lH,ho,hx,Ip]];exact h2
 .rw[List.concat_eq_append]at hx;refine(asL h b1 (by omega) (by omega) (by omega) init x hx st.op st.a st.b st.c st.d st.depth st.jY).mono ?_;rintro e w' ⟨h1,vs',h2,h3⟩;refine⟨h1,vs',vb,vl,?_,h3⟩;rw[show lH l st=mM l ⟨st.op,st.a,st.b,st.c,st.d,st.depth,x⟩ by simp[lH,ho,hx,Ip]];exact h2
theorem ahQ(h:jS B w L s l vs vb vl)(hi:Inv l)(hl:l.jB.length<=100000)(st:St)(h0:¬st.op=0)(h2:¬st.op=2)(h3:¬st.op=3)(h4:¬st.op=4)(h5:¬st.op=5):Calls prog 118 #[Pt L 0,zX st] w (zl B w L s vs vb vl (lH l st)):=by
 obtain⟨b1,b2⟩:=hi.jH;refine(IZ h b1 (by omega) (by omega) st.op st.a st.b st.c st.d st.depth st.jY).mono ?_;rintro e w' ⟨g1,vs',g2,g3⟩;refine⟨g1,vs',vb,vl,?_,g3⟩;rw[show lH l st=mM l st by simp[lH,h0,h2,h3,h4,h5]];exact g2
end
end
section
variable {B:Nat}{w:jk}{L:Nat}{s:ji}{l:Ls}{vs vb vl:jm}
def KQ(B:Nat)(w:jk)(L:Nat)(s:ji)(vs vb vl:jm)(Q:Ls->Prop)(e:Ending)(w':jk):Prop:=
 e=.returned (.tuple #[])/\∃l' vs' kL lC,jS B w' L s l' vs' kL lC/\jT L w vs vb vl w' vs' kL lC/\Q l'
theorem UE(HR:Hid (Calls prog 112 #[Pt L 0] w λe w'=>∃l' x0 x1 x2 x3 x4,jS B w' L s l' vs vb vl/\jT L w vs vb vl w' vs vb vl/\e=.returned (.tuple #[.agg #[.int .u8 x0,Im x1,Im x2,Im x3,Im x4,Im 0,Im 0],.bool false]))):
 Calls prog 72 #[Pt L 0] w (KQ B w L s vs vb vl λl'=>l'.bad=true):=by
 go_enter func72,ntmps72;go_wp2_with fail;refine HR.out.mono ?_;rintro e w1 ⟨l',x0,x1,x2,x3,x4,h1,h2,rfl⟩;have c7:=h1.c7;have f7:=h1.fr 7;have hL:=h1.lt;have n1:¬L=w1.heap.size:=by omega
 have HP:Hid (∀o,jS B ((w1.setCell (Ad L 7) (.bool true)).alloc o) L s {l' with bad:=true} vs vb vl/\jT L w vs vb vl ((w1.setCell (Ad L 7) (.bool true)).alloc o) vs vb vl):=λo=>
  ⟨h1.Ig.alloc o,h2.trans ((jT.own L w1 vs vb vl 7 _).trans (jT.grow L _ _ _ _ (ah _ o none)))⟩
 clear h1 h2 HR;go_wp2_with fail;go_end0;exact⟨rfl,_,_,_,_,(HP.out _).1,(HP.out _).2,rfl⟩
theorem ame(l1:Ls)(hi:Inv l1)(hl:l1.jB.length<=100000)(st:St)(hd:st.depth=0)(ht:st.jY=0)
 (HR:Hid (Calls prog 112 #[Pt L 0] w λe w'=>jS B w' L s l1 vs vb vl/\jT L w vs vb vl w' vs vb vl/\e=.returned (.tuple #[zX st,.bool true]))):
 Calls prog 72 #[Pt L 0] w (KQ B w L s vs vb vl λl'=>l'=lH l1 st):=by
 obtain⟨q,a,b,c,d,dp,t⟩:=st;simp only at hd ht;subst hd;subst ht;have HF:Hid (∀w1 o e w',jS B w1 L s l1 vs vb vl->jT L w vs vb vl w1 vs vb vl->zl B (w1.alloc o) L s vs vb vl (lH l1 ⟨q,a,b,c,d,0,0⟩) e w'->KQ B w L s vs vb vl (λl'=>l'=lH l1 ⟨q,a,b,c,d,0,0⟩) e w'):=by
  rintro w1 o e w' h1 h2 ⟨h3,vs',kL,lC,h4,h5⟩;exact⟨h3,_,_,_,_,h4,h2.trans ((jT.grow L w1 _ _ _ (ah _ o none)).trans h5),rfl⟩
 by_cases o2:q=2
 .subst o2;go_enter func72,ntmps72;go_wp2_with fail;refine HR.out.mono ?_;rintro e w1 ⟨h1,h2,rfl⟩;have HC:=jA (λo=>ahU (h1.alloc o) hi hl ⟨2,a,b,c,d,0,0⟩ rfl);have HG:=jA (λo e w' (ha:zl B (w1.alloc o) L s vs vb vl (lH l1 ⟨2,a,b,c,d,0,0⟩) e w')=>HF.out w1 o e w' h1 h2 ha);clear h1 h2 HR hi HF;simp only[zX];go_wp2_with fail;refine(HC.out _).mono ?_;intro e w2 ha;have hg:=HG.out _ _ _ ha;obtain⟨rfl,_⟩:=ha;have HH:=jA hg;clear hg;go_wp2_with fail;go_end0;exact HH.out
 by_cases o4:q=4
 .subst o4;go_enter func72,ntmps72;go_wp2_with fail;refine HR.out.mono ?_;rintro e w1 ⟨h1,h2,rfl⟩;have HC:=jA (λo=>ahT (h1.alloc o) hi hl ⟨4,a,b,c,d,0,0⟩ rfl);have HG:=jA (λo e w' (ha:zl B (w1.alloc o) L s vs vb vl (lH l1 ⟨4,a,b,c,d,0,0⟩) e w')=>HF.out w1 o e w' h1 h2 ha);clear h1 h2 HR hi HF;simp only[zX];go_wp2_with fail;refine(HC.out _).mono ?_;intro e w2 ha;have hg:=HG.out _ _ _ ha;obtain⟨rfl,_⟩:=ha;have HH:=jA hg;clear hg;go_wp2_with fail;go_end0;exact HH.out
 by_cases o3:q=3
 .subst o3;go_enter func72,ntmps72;go_wp2_with fail;refine HR.out.mono ?_;rintro e w1 ⟨h1,h2,rfl⟩;have HC:=jA (λo=>ahR (h1.alloc o) hi hl ⟨3,a,b,c,d,0,0⟩ rfl);have HG:=jA (λo e w' (ha:zl B (w1.alloc o) L s vs vb vl (lH l1 ⟨3,a,b,c,d,0,0⟩) e w')=>HF.out w1 o e w' h1 h2 ha);clear h1 h2 HR hi HF;simp only[zX];go_wp2_with fail;refine(HC.out _).mono ?_;intro e w2 ha;have hg:=HG.out _ _ _ ha;obtain⟨rfl,_⟩:=ha;have HH:=jA hg;clear hg;go_wp2_with fail;go_end0;exact HH.out
 by_cases o0:q=0
 .subst o0;go_enter func72,ntmps72;go_wp2_with fail;refine HR.out.mono ?_;rintro e w1 ⟨h1,h2,rfl⟩;have HC:=jA (λo=>ahS (h1.alloc o) hi hl ⟨0,a,b,c,d,0,0⟩ rfl);have HG:=jA (λo e w' (ha:zl B (w1.alloc o) L s vs vb vl (lH l1 ⟨0,a,b,c,d,0,0⟩) e w')=>HF.out w1 o e w' h1 h2 ha);clear h1 h2 HR hi HF;simp only[zX];go_wp2_with fail;refine(HC.out _).mono ?_;intro e w2 ha;have hg:=HG.out _ _ _ ha;obtain⟨rfl,_⟩:=ha;have HH:=jA hg;clear hg;go_wp2_with fail;go_end0;exact HH.out
 by_cases o5:q=5
 .subst o5;go_enter func72,ntmps72;go_wp2_with fail;refine HR.out.mono ?_;rintro e w1 ⟨h1,h2,rfl⟩;have HC:=jA (λo=>ahV (h1.alloc o) hi hl ⟨5,a,b,c,d,0,0⟩ rfl);have HG:=jA (λo e w' (ha:zl B (w1.alloc o) L s vs vb vl (lH l1 ⟨5,a,b,c,d,0,0⟩) e w')=>HF.out w1 o e w' h1 h2 ha);clear h1 h2 HR hi HF;simp only[zX];go_wp2_with fail;refine(HC.out _).mono ?_;intro e w2 ha;have hg:=HG.out _ _ _ ha;obtain⟨rfl,_⟩:=ha;have HH:=jA hg;clear hg;go_wp2_with fail;go_end0;exact HH.out
 have e0:(q==0)=false:=by simpa using o0
 have e2:(q==2)=false:=by simpa using o2
 have e3:(q==3)=false:=by simpa using o3
 have e4:(q==4)=false:=by simpa using o4
 have e5:(q==5)=false:=by simpa using o5
 go_enter func72,ntmps72;go_wp2_with fail;refine HR.out.mono ?_;rintro e w1 ⟨h1,h2,rfl⟩;have HC:=jA (λo=>ahQ (h1.alloc o) hi hl ⟨q,a,b,c,d,0,0⟩ o0 o2 o3 o4 o5);have HG:=jA (λo e w' (ha:zl B (w1.alloc o) L s vs vb vl (lH l1 ⟨q,a,b,c,d,0,0⟩) e w')=>HF.out w1 o e w' h1 h2 ha);clear h1 h2 HR hi HF;simp only[zX];go_wp2_with fail;refine(HC.out _).mono ?_;intro e w2 ha;have hg:=HG.out _ _ _ ha;obtain⟨rfl,_⟩:=ha;have HH:=jA hg;clear hg;go_wp2_with fail;go_end0;exact HH.out
def EM(bs:List UInt8)(l l':Ls):Prop:=match xH bs l with
 |none=>l'.bad=true
 |some (st,l1)=>l'=lH l1 st
theorem amg(h:jS B w L s l vs vb vl)(hi:Inv l)(p:Nat)(hp:l.pos=p)(hps:p<=s.size)(hs:s.size<=100000)(hl:l.jB.length<=p):
 Calls prog 72 #[Pt L 0] w (KQ B w L s vs vb vl λl'=>EM s.data.toList l l'):=by
 have hlen:s.data.toList.length=s.size:=by simp
 by_cases he:p=s.size
 .have hn:xH s.data.toList l=none:=by
   unfold xH;rw[bV (by omega)]
  simp only[EM,hn];refine UE ((aqx h (by omega)).mono ?_);rintro e w' ⟨rfl,hg⟩;exact⟨l,_,_,_,_,_,h.grow hg,jT.grow L w vs vb vl hg,rfl⟩
 .have hlt:p<s.size:=by omega
  have hb:s.data.toList[l.pos.toNat]? =some s[p]:=by
   have e1:l.pos.toNat=p:=by omega
   rw[e1,bU (by omega)]
   rfl
  have hpt:l.pos.toNat+1=p+1:=by omega
  have hR:=aqz h p hp hlt hs _ rfl;cases hr:wP s.data.toList (Hx.shape s[p].toNat) (p+1) l.jD with
  |none=>
   have hn:xH s.data.toList l=none:=by
    unfold xH;rw[hb];simp only[hpt,hr];split<;>rfl
   simp only[EM,hn];refine UE (hR.mono ?_);rintro e w' ⟨l',h1,h2,⟨ns,p',sl',h3,_⟩|⟨_,_,rfl⟩⟩
   .rw[hr]at h3;cases h3
   .exact⟨l',_,_,_,_,_,h1,h2,rfl⟩
  |some r=>
   obtain⟨ns,p',sl'⟩:=r;cases hop:Hx.Ew s[p].toNat with
   |false=>
    have hn:xH s.data.toList l=none:=by
     unfold xH;rw[hb];simp[hop]
    simp only[EM,hn];refine UE (hR.mono ?_);rintro e w' ⟨l',h1,h2,⟨ns,p',sl',h3,_,rfl⟩|⟨h3,_⟩⟩
    .rw[hop];exact⟨l',_,_,_,_,_,h1,h2,rfl⟩
    .rw[hr]at h3;cases h3
   |true=>
    have hn:xH s.data.toList l=some (⟨s[p].toNat,ns.getD 0 0,ns.getD 1 0,ns.getD 2 0,ns.getD 3 0,0,0⟩,{l with pos:=p',jD:=sl'}):=by
     unfold xH;rw[hb];simp[hop,hpt,hr]
    have hok:=Hx.NC hn (by omega) hi.jD;simp only[EM,hn];refine ame {l with pos:=p',jD:=sl'} (hi.read hok.2.2.2.1 hok.2.2.2.2.1) (by show l.jB.length<=100000;omega) _ rfl rfl (hR.mono ?_);rintro e w' ⟨l',h1,h2,⟨ns',p'',sl'',h3,h4,rfl⟩|⟨h3,_⟩⟩
    .rw[hr]at h3;cases h3;subst h4;rw[hop];exact⟨h1,h2,rfl⟩
    .rw[hr]at h3;cases h3
end
end
section
open Go.RowKit
open Hx (St Bk Ls jJ Inv IB)
attribute [local go_sem ↓] Go.wp_at_zero Go.wp_at_succ
attribute [local go_sem] kP
section
variable {B:Nat}{w:jk}{L:Nat}{s:ji}{l:Ls}{vs vb vl:jm}
theorem jT.below(h:jS B w L s l vs vb vl){w':jk}{vs' kL lC:jm}(hm:jT L w vs vb vl w' vs' kL lC):Below B w w':=by
 refine⟨hm.os,hm.tape,hm.output,hm.size,λk hk=>?_⟩;have hL:=h.lt;have hB:=h.bL;have aux:∀{v:jm}{e:jo}{sz n:Nat}{xs:List jm},w.ownsRow B e sz v n xs->some k≠v.ownBlock:=λho e=>by
  have:=(ho.lt k e.symm).1;omega
 exact hm.block k (by omega) (by omega) (aux h.jB) (aux h.jH) (aux h.jV)
def Oe(bs:List UInt8)(g:Nat)(l:Ls):Prop:=
 (l.bad=true/\(mG bs).bad=true)\/(l.bad=false/\l=mG bs/\IB l/\l.pos<=bs.length)\/
 (Inv l/\0<=l.pos/\l.pos<=bs.length/\(l.jB.length:Int)<=l.pos/\(bs.length:Int)-l.pos<g/\uX bs g l=mG bs)
theorem asT(bs:List UInt8):Oe bs (bs.length+1) tY:=
 je (je ⟨Hx.acu,by simp[tY],by simp[tY],by simp[tY],by simp only[tY];omega,rfl⟩)
theorem asU{bs:List UInt8}(hbs:bs.length<=100000){g:Nat}{l l':Ls}(hi:Inv l)(h0:0<=l.pos)(h1:l.pos<=bs.length)(h2:(l.jB.length:Int)<=l.pos)(h3:(bs.length:Int)-l.pos<(g+1:Nat))(h4:uX bs (g+1) l=mG bs)(ha:EM bs l l'):Oe bs g l':=by
 have hn:¬(l.jH=[]\/l.bad=true):=λe=>e.elim hi.jH.1 (λe=>by rw[hi.bad]at e;cases e);unfold EM at ha;cases hr:xH bs l with
 |none=>
  rw[hr]at ha;refine jf ⟨ha,?_⟩;rw[<-h4];simp only[uX,jg hn,hr]
 |some q=>
  obtain⟨st,l1⟩:=q;rw[hr]at ha;simp only at ha;subst ha;rw[Hx.adb bs g l l1 st hi hr]at h4;obtain⟨g1,g2,g3,g4,g5,g6⟩:=Hx.NC hr h0 hi.jD;have hi1:Inv l1:=by rw[g6];exact hi.read g4 g5
  have hs1:l1.jB=l.jB:=by rw[g6]
  obtain⟨k1,k2⟩:=Hx.acn l1 st;cases hbb:(lH l1 st).bad with
  |true=>
   rw[Hx.ac8 bs g _ hbb]at h4;exact jf ⟨hbb,by rw[<-h4];exact hbb⟩
  |false=>
   rcases Hx.acv hi1 st g1 (by rw[hs1];omega) hbb with hv|hv
   .exact je (je ⟨hv,by rw[k2];omega,by rw[k2];exact g3,by rw[k2];rw[hs1]at k1;omega,by rw[k2];push_cast at h3;omega,h4⟩)
   .rw[Hx.ac9 bs g _ hv.jH]at h4;exact je (jf ⟨hbb,h4,hv,by rw[k2];exact g3⟩)
structure ER(w:jk)(C:Nat)(l:Ls):Prop where
 code:∃sb cap,uw w.heap.size w C 0 sb 0 cap l.jB
 jD:w.cell? (Ad C 1)=some (Im l.jD)
 jC:w.cell? (Ad C 2)=some (Im l.jC)
def Sm(s:ji)(w:jk)(e:Ending)(w':jk):Prop:=
 Below w.heap.size w w'/\((wU s.data.toList=true/\∃C,w.heap.size<=C/\e=.returned (.tuple #[Pt C 0,Im 0])/\ER w' C (mG s.data.toList))\/
  (wU s.data.toList=false/\e=.returned (.tuple #[.pointer none,Im 5])))
theorem ajS(h:jS B w L s l vs vb vl)(hpos:0<l.jB.length)(k:Nat)(T:jo):ER ((w.drewN k).alloc (.cells #[vs,Im l.jD,Im l.jC] T)) w.heap.size l:=by
 have hb:∀j,((w.drewN k).alloc (.cells #[vs,Im l.jD,Im l.jC] T)).cell? (Ad w.heap.size j)=(#[vs,Im l.jD,Im l.jC]:Array jm)[j]? :=λj=>by
  have hh:((w.drewN k).alloc (.cells #[vs,Im l.jD,Im l.jC] T)).heap[w.heap.size]? =some (.cells #[vs,Im l.jD,Im l.jC] T):=aY (w.drewN k) _;exact jI hh
 have h':=(h.drewN k).alloc (.cells #[vs,Im l.jD,Im l.jC] T);have alL:l.jB[0]? =some l.jB[0]:=bU hpos;obtain⟨g,cap,e1,e2,_⟩:=h'.CG alL;refine⟨⟨g,cap,?_,e2,?_,?_⟩,hb 1,hb 2⟩
 .show w.heap.size<((w.drewN k).alloc _).heap.size;rw[show∀(x:jk) o,(x.alloc o).heap.size=x.heap.size+1 fromλx o=>by simp];exact Nat.lt_succ_self _
 .rw[hb 0,e1];rfl
 .intro i st hst;obtain⟨g',cap',e1',_,_,_,_,_,hat,_⟩:=h'.CG hst;rw[e1]at e1';cases e1';rw[gW];exact hat
theorem amY(w:jk)(s:ji)(hs:100000<s.size):Calls prog 31 #[.string s] w (Sm s w):=by
 have d1:decide ((100000:Int)<(s.size:Int))=true:=by simp;omega
 have HT:Hid (wU s.data.toList=false):=by
  have:¬s.data.toList.length<=100000:=by simp;omega
  show _=_;simp only[wU,dO this,gK]
 go_enter func31,ntmps31;go_wp2_with fail;go_ret2;exact⟨dK _ w,je ⟨HT.out,rfl⟩⟩
theorem amZ(w:jk)(s:ji)(hs:s.size<=100000):Calls prog 31 #[.string s] w (Sm s w):=by
 have d1:decide ((100000:Int)<(s.size:Int))=false:=by simp;omega
 have hbs:s.data.toList.length<=100000:=by simpa using hs
 have hlen:s.data.toList.length=s.size:=by simp
 go_enter func31,ntmps31;go_wp2_with fail;refine(aoh w s).mono ?_;rintro e w1 ⟨L,rfl,hL,hg1,g,cap,hl1⟩;have HB:Hid (Below w.heap.size w w1):=⟨hg1.os,hg1.tape,hg1.output,hg1.size,λk hk=>hg1.block k hk (by simp)⟩;have HL:=jA hl1;clear hg1 hl1;go_wp2_with fail;go_loopg [] (s.data.toList.length+1) (λgg wr=>∃l vs vb vl,jS w.heap.size wr L s l vs vb vl/\Below w.heap.size w wr/\Oe s.data.toList gg l)
 case atStart=>exact⟨_,_,_,_,HL.out,HB.out,asT _⟩
 case round=>
  obtain⟨l,vs,vb,vl,h1,h2,h3⟩:=hrel;clear HL HB;obtain⟨ab,cb,rfl⟩:=Cm h1.jH;obtain⟨as',cs',rfl⟩:=Cm h1.jB;have c1:=h1.c1;have c2:=h1.c2;have c3:=h1.c3;have c5:=h1.c5;have c6:=h1.c6;have c7:=h1.c7;rcases h3 with⟨hb,hld⟩|⟨hb,hld,hf,hps⟩|⟨hi,p0,p1,p2,p3,p4⟩
  .have HT:Hid (wU s.data.toList=false):=by
    show _=_;simp only[wU,hld,jc,iL,gK]
   have HB:=jA h2;rw[hb]at c7;clear h1 h2 hld;generalize l.jH.length=n at *;by_cases hn:n=0
   .subst hn;go_wp2_with fail;go_ret2;exact⟨HB.out,je ⟨HT.out,rfl⟩⟩
   .have hn':decide ((0:Int)<(n:Int))=true:=by simp;omega
    go_wp2_with fail;go_ret2;exact⟨HB.out,je ⟨HT.out,rfl⟩⟩
  .have hbl:l.jH.length=0:=by rw[hf.jH];rfl
   rw[hbl]at c3;rw[hb]at c7;have hLr:=h1.lt;have n1:¬L=wr.heap.size:=by omega
   have HB:=jA h2;have HC:Hid (∀k T,ER ((wr.drewN k).alloc (.cells #[.slice as' l.jB.length cs',Im l.jD,Im l.jC] T)) wr.heap.size (mG s.data.toList)):=λk T=>by
    rw[<-hld];exact ajS h1 hf.sound.fits.pos k T
   by_cases hp:l.pos<s.size
   .have HT:Hid (wU s.data.toList=false):=by
     show _=_;have:¬(mG s.data.toList).pos=(s.data.toList.length:Int):=by rw[<-hld];omega
     simp only[wU,dO this,iL]
    have d2:=dR hp;clear h1 h2 hld hf;generalize l.pos=pos at *;go_wp2_with fail;go_ret2;exact⟨HB.out,je ⟨HT.out,rfl⟩⟩
   .have HT:Hid (wU s.data.toList=true):=by
     show _=_;have e1:(mG s.data.toList).pos=(s.data.toList.length:Int):=by rw[<-hld];omega
     have e2:(mG s.data.toList).bad=false:=by rw[<-hld];exact hb
     simp only[wU,dR e1,dR hbs,e2,Bool.not_false,Bool.and_self]
    have d2:=dO hp;clear h1 h2 hld hf;generalize l.pos=pos at *;generalize l.jD=sl at *;generalize l.jC=jC at *;generalize l.jB.length=nst at *;go_wp2_with fail;refine nP 13 (by kernel_rfl) (by kernel_rfl) ?_;simp only[aC,aO,aG,aQ];repeat (go_big_quiet_step (fail))
    refine bF ?_;intro _ hw';obtain⟨k3,hw''⟩:=hw';subst hw'';go_wp2_with fail;go_ret2;refine⟨?_,jf ⟨HT.out,wr.heap.size,by have:=HB.out.size;omega,rfl,HC.out k3 _⟩⟩;have hb3:Below w.heap.size w (wr.drewN k3):=HB.out.trans ⟨rfl,rfl,rfl,aj _,λ_ _=>rfl⟩;exact hb3.alloc HB.out.size _
  .have hbp:=List.length_pos_iff.2 hi.jH.1;have hn':decide ((0:Int)<(l.jH.length:Int))=true:=by simp;omega
   rw[hi.bad]at c7;obtain⟨p,hp⟩:=bI p0;obtain⟨g',rfl⟩:∃g',gk=g'+1:=⟨gk-1,by omega⟩;have HC:=jA (amg h1 hi p hp (by omega) hs (by omega));have HN:Hid (∀e w',KQ w.heap.size wr L s (.slice as' l.jB.length cs') (.slice ab l.jH.length cb) vl (λl'=>EM s.data.toList l l') e w'->e=.returned (.tuple #[])/\∃l' vs' kL lC,jS w.heap.size w' L s l' vs' kL lC/\Below w.heap.size w w'/\Oe s.data.toList g' l'):=by
    rintro e w' ⟨q1,l',vs',kL,lC,q2,q3,q4⟩;exact⟨q1,l',vs',kL,lC,q2,h2.trans (jT.below h1 q3),asU hbs hi p0 p1 p2 p3 p4 q4⟩
   clear h1 h2 hi p4;generalize l.jH.length=n at *;go_wp2_with fail;refine HC.out.mono ?_;intro e w2 hq;obtain⟨rfl,hq2⟩:=HN.out _ _ hq;have HQ:=jA hq2;clear hq hq2 HC HN;go_wp2_with fail;go_roundg g'
   case measure=>omega
   case rel=>exact HQ.out
theorem amX(w:jk)(s:ji):Calls prog 31 #[.string s] w (Sm s w):=by
 by_cases hs:s.size<=100000
 .exact amZ w s hs
 .exact amY w s (by omega)
end
end
end Go.Proofs.YthllhabjfchgiaaGreatDoor
