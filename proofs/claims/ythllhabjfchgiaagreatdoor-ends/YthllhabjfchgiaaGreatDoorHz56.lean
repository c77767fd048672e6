import Derived.Test.YthllhabjfchgiaaGreatDoorHz55
import Derived.Test.YthllhabjfchgiaaGreatDoorHz54
set_option maxRecDepth 100000
set_option maxHeartbeats 8000000
namespace Go.Proofs.YthllhabjfchgiaaGreatDoor
open _root_.Go.Proofs.Tryz
attribute [local simp] World.grownBy.refl fG fH gB
section
open Go.RowKit Hx
attribute [local go_sem ↓] Go.wp_at_zero Go.wp_at_succ
attribute [local go_sem] bT
section
variable {w w' w2 w1:World}{tag tag':Nat->Nat}{L n:Nat}{s s':aO}{bs:List UInt8}
abbrev stL(s:aO)(a1:Option Addr)(c1:Nat)(a2:Option Addr)(c2:Nat)(a3:Option Addr)(c3:Nat)(a4:Option Addr)(c4:Nat)(a5:Option Addr)(c5:Nat)(a6:Option Addr)(c6:Nat):List Value:=[Im (s.acc:Int),Im (s.bQ:Int),Im (s.dA:Int),Im (s.dN:Int),.slice a1 s.ah.length c1,.slice a2 s.aG.length c2,.slice a3 s.aJ.length c3,.slice a4 s.aP.length c4,.slice a5 s.ah.length c5,.slice a6 s.ah.length c6,Im s.r0,Im s.r1,Im s.r2,Im s.r3,Im s.r4,Im s.r5,Im s.r6,Im s.r7]
abbrev stZ:List Value:=[Im 0,Im 0,Im 0,Im 0,Nl,Nl,Nl,Nl,Nl,Nl,Im 0,Im 0,Im 0,Im 0,Im 0,Im 0,Im 0,Im 0]
theorem fZ.stated(h:fZ w tag L bs s)(hs:Small s):∀y,w.grownBy y none->Calls prog 37 #[Pt L 0] y fun e w2=>∃a1 c1 a2 c2 a3 c3 a4 c4 a5 c5 a6 c6,e=.returned (.agg (List.toArray (stL s a1 c1 a2 c2 a3 c3 a4 c4 a5 c5 a6 c6)))/\Hid (∀W,W.heap[w2.heap.size]? =some (.cells (List.toArray (stL s a1 c1 a2 c2 a3 c3 a4 c4 a5 c5 a6 c6)) 93)->w2.grownBy W none->Told W tag w2.heap.size s/\fZ W tag L bs s/\w.grownBy W none):=fun y hy=>by
 refine(h.seen hs hy).mono ?_;rintro e w2 ⟨a1,c1,a2,c2,a3,c3,a4,c4,a5,c5,a6,c6,e1,e2,e3⟩;refine⟨a1,c1,a2,c2,a3,c3,a4,c4,a5,c5,a6,c6,e1,fun W hb hg=>?_⟩;have hW:=e3.out.trans hg;exact⟨Told.new h hy e2.out hb hg,h.grow hW,hW⟩
theorem acD.more{w0 wr wx:World}{aiF:Nat->Nat}{k:Nat}(h:acD w0 aiF L bs k wr)(hg:wr.grownBy wx none):acD w0 aiF L bs k wx:=by
 obtain⟨s,h1,h2⟩:=h.ex;exact⟨s,h1.more hg,h2⟩
theorem Stepped.below{w0 wr:World}(h:Stepped w0 tag L bs s wr)(hb:Below w.heap.size w w0)(ht:∀b,b<w.heap.size->tag b=0):Below w.heap.size w wr:=by
 obtain⟨t1,_,f⟩:=h;have hs:=hb.size;exact hb.trans ⟨f.os,f.tape,f.output,f.size,fun b hb2=>f.aN b (by omega) (ht b hb2)⟩
theorem ajM{f b:Nat->Nat}{r k:Nat}(h:b r<=k)(h2:k<=b r\/k=f r):upTo f b r k=o9 f b (r+1):=by
 rw[<-alv];unfold upTo;rw[show k-f r=b r-f r by omega]
theorem ajc{g a wd c:Nat}(h:lF s g a wd c)(hf:xX g a wd c){r:Nat}(hr:r<s.ah.length):o7 s r<=100000000000000/\o8 s r<=100000000000000:=by
 have h0:s.ah[r]? =some s.ah[r]:=List.getElem?_eq_getElem hr;have h1:=(h.bd.aK r _ h0).aT;have h2:=(h.bd.aK r _ h0).aX;have h3:=hf.g;have h4:=hf.a;rw[acR h0,acO h0];exact⟨by omega,by omega⟩
theorem aln{g a wd c:Nat}(ho:lF s g a wd c)(hn:s.ah.length<=4)(f:Nat->Nat)(h9:∀i,i<s.ah.length->o7 s i<=f i+9):lF (s.ZX (o9 f (o7 s) s.ah.length)) g (a+36) wd c/\(s.ZX (o9 f (o7 s) s.ah.length)).ah.length=s.ah.length/\∀i,i<(s.ZX (o9 f (o7 s) s.ah.length)).ah.length->o8 (s.ZX (o9 f (o7 s) s.ah.length)) i<=o8 s i+9:=by
 have hl:=(abO (o9 f (o7 s) s.ah.length) s ho.sn).2.len;have h1:=aek f (o7 s) 9 s.ah.length h9;refine⟨(ae0 _ ho).mono (Nat.le_refl _) (by omega) (Nat.le_refl _) (Nat.le_refl _),hl,fun i hi=>?_⟩;have k1:=afQ (o9 f (o7 s) s.ah.length) s i;have k2:=agk f (o7 s) i s.ah.length;have k3:=h9 i (by omega);omega
def acU.Next(s:aO)(bs:List UInt8)(k m T:Nat):Prop:=lF (s.round bs) (vM k+289 * (m+1)) (Cj k+36 * (m+1)) (256 * k+256 * (m+1)) k/\acT (s.round bs) (m+1) T/\0<(s.round bs).acc
theorem akw(src code:ByteArray)(c wn:Int)(hc:aZ c)(hwn:aZ wn)(ad:Option Addr)(cp:Nat)(l:List Gg)(hl:l.length<=1048576)(hsc:Gi w.heap.size w ad l)(hin:∀o∈l,aZ o.kind/\aZ o.a/\aZ o.b)(hT:mZ w)(hone:1<w.heap.size):
 Calls prog 10 #[.string src,.string code,Im c,.slice ad l.length cp,Im wn] w fun e w'=>e=.returned (.bool true)/\Below w.heap.size w w':=by
 obtain⟨p0,p1⟩:=Iy (c:=c) (n:=4) (by omega);obtain⟨n,hpn⟩:∃n:Nat,(1:Int)+mP c 4=(n:Int):=⟨(1+mP c 4).toNat,by omega⟩;have hn1:1<=n:=by omega
 obtain⟨q0,q1⟩:=Iy (c:=wn) (n:=16) (by omega);obtain⟨q,hq⟩:∃q:Nat,mP wn 16=(q:Int):=⟨(mP wn 16).toNat,by omega⟩;have alQ:q<16:=by omega
 have HP:Hid (∀y,Calls prog 28 #[Im wn,Im 16] y fun e w'=>e=.returned (Im (q:Int))/\w'=y):=fun y=>by rw[<-hq];exact Fh y wn 16 hwn (by omega) (by omega)
 have hw1:IntKind.i64.wrap (1+(q:Int))=1+(q:Int):=by rw[IntKind.wrap_i64];omega
 have uZ:Hid (Calls prog 30 #[] w fun e w'=>e=.returned (.bool true)/\Below w.heap.size w w'):=ad3 hT hone;have FU:Hid (∀y src code,Below w.heap.size w y->Calls prog 33 #[.string src,.string code,Im c] y fun e w'=>(qA src code=true->∃L,e=.returned (Pt L 0)/\vC y L (yI src code).data.toList n w')/\(qA src code=false->e=.returned (.pointer none)/\y.grownBy w' none)):=fun y src code hb=>acg src code c hc n hpn (hT.later hb hone) (by have:=hb.size;omega);have HSc:=bC (And.intro hsc hin);clear hpn p0 p1 q0 q1 hq hsc hin hT hone;have Ar:Hid (∀w1,Below w.heap.size w w1->Calls prog 33 #[.string src,.string code,Im c] w1 fun e w2=>(∃L,e=.returned (Pt L 0)/\Hid (∃tag bs,fZ w2 tag L bs (uN n)/\Below w.heap.size w w2/\∀b,b<w.heap.size->tag b=0))\/(e=.returned (.pointer none)/\Hid (Below w.heap.size w w2))):=fun w1 b1=>by
  refine(FU.out w1 src code b1).mono ?_;rintro e w2 ⟨h1,h2⟩;cases hok:qA src code with
  |true=>
   obtain⟨L,e1,hN⟩:=h1 hok;obtain⟨tag,hLk,b2,rW⟩:=hN.parts b1;exact Or.inl ⟨L,e1,⟨tag,_,hLk,b2,rW⟩⟩
  |false=>
   obtain⟨e1,g3⟩:=h2 hok;exact Or.inr ⟨e1,b1.trans ((Below.Bj g3).mono b1.size)⟩
 have FT:Hid (∀w1,Below w.heap.size w w1->Calls prog 33 #[.string ⟨#[]⟩,.string ⟨#[]⟩,Im c] w1 fun e w2=>∃L,e=.returned (Pt L 0)/\Hid (∃tag bs,fZ w2 tag L bs (uN n)/\Below w.heap.size w w2/\∀b,b<w.heap.size->tag b=0)):=fun w1 b1=>by
  refine(FU.out w1 ⟨#[]⟩ ⟨#[]⟩ b1).mono ?_;rintro e w2 ⟨h1,_⟩;obtain⟨L,e1,hN⟩:=h1 ab1;obtain⟨tag,hLk,b2,rW⟩:=hN.parts b1;exact⟨L,e1,⟨tag,_,hLk,b2,rW⟩⟩
 clear FU;go_enter func10,ntmps10;go_wp2_with fail;refine uZ.out.mono ?_;rintro e w1 ⟨rfl,b1⟩;clear uZ;have HH3:=bC (Ar.out w1 b1);clear Ar b1;go_wp2_with fail;refine HH3.out.mono ?_;rintro e w2 (⟨L,rfl,HL⟩|⟨rfl,HB2⟩)
 case' inr=>
  have HH4:=bC (FT.out w2 HB2.out);clear HH3 HB2;go_upto_region 7 with(go_at_call 33;refine HH4.out.mono ?_;rintro e w2 ⟨L,rfl,HL⟩);clear HH4
 case' inl=>clear HH3
 all_goals
  clear FT;obtain⟨tag,bs,hLk,b2,rW⟩:=HL.out;have HB:=bC (And.intro b2 rW);have H0:Hid (acD w2 tag L bs 0 w2/\∃n,1<=n/\Stepped w2 tag L bs (uN n) w2):=⟨⟨uN n,Stepped.refl hLk,(ajk n hn1).mono (by decide) (Nat.zero_le _) (Nat.zero_le _) (Nat.zero_le _),fun h=>absurd h (Nat.lt_irrefl 0)⟩,n,hn1,Stepped.refl hLk⟩;clear HL hLk b2 rW;go_wp2_with fail;go_loopg [13] (q+2) (fun gg i wr=>Hid (∃k:Nat,k+gg=q+2/\k<=q+1/\i=Im k/\acD w2 tag L bs k wr/\(k=0->∃n,1<=n/\Stepped w2 tag L bs (uN n) wr)))
  case atStart=>exact⟨0,by omega,Nat.zero_le _,rfl,H0.out.1,fun _=>H0.out.2⟩
  case round=>
   obtain⟨k,hk1,hk2,rfl,hE,hE0⟩:=hrel.out;clear hrel H0;by_cases hlt:k<q+1
   .have d1:decide ((k:Int)<1+(q:Int))=true:=decide_eq_true (by omega);obtain⟨g',hg'⟩:∃g',gk=g'+1:=⟨gk-1,by omega⟩;have HWr:Hid (∀y,wr.grownBy y none->Calls prog 36 #[Pt L 0,Im 1] y fun e w'=>∃v,e=.returned (Im v)/\Hid (acD w2 tag L bs (k+1) w')):=fun y hy=>(hE.more hy).write (fun h=>by obtain⟨n,e1,e2⟩:=hE0 h;exact⟨n,e1,e2.more hy⟩) (by omega);clear hE hE0;go_wp2_with (first|(go_at_call 28;refine(HP.out _).mono ?_;rintro e w' ⟨rfl,hw⟩;have hw':=hw.symm;subst hw';clear hw)|(go_at_call 36;refine(HWr.out _ (by simp)).mono ?_;rintro e w4 ⟨v,rfl,HE⟩));go_roundg g'
    case measure=>omega
    case rel=>exact⟨k+1,by omega,by omega,by go_num,HE.out,fun h=>absurd h (Nat.succ_ne_zero _)⟩
   .have d1:decide ((k:Int)<1+(q:Int))=false:=decide_eq_false (by omega);have hkq:k=q+1:=by omega
    subst hkq;have H1:=bC hE;clear hE hE0;rename World=>w5;go_wp2_with (go_at_call 28;refine(HP.out _).mono ?_;rintro e w' ⟨rfl,hw⟩;have hw':=hw.symm;subst hw';clear hw);go_loopg [14] (l.length+1) (fun gg i wr=>Hid (∃k:Nat,k+gg=l.length+1/\k<=l.length/\i=Im k/\acD w2 tag L bs (q+1+k) wr))
    case atStart=>exact⟨0,by omega,Nat.zero_le _,rfl,H1.out.more (by simp)⟩
    case round=>
     obtain⟨k,hk3,hk4,rfl,hE⟩:=hrel.out;clear hrel H1;by_cases hlt2:k<l.length
     .have d2:decide ((k:Int)<(l.length:Int))=true:=decide_eq_true (by omega);have i0:(0:Int)<=(k:Int):=by omega
      have i1:(k:Int)<(l.length:Int):=by omega
      obtain⟨g',hg'⟩:∃g',gk=g'+1:=⟨gk-1,by omega⟩;obtain⟨o,ho⟩:∃o,l[k]? =some o:=⟨_,List.getElem?_eq_getElem hlt2⟩;obtain⟨n1,n2,n3⟩:=HSc.out.2 o (List.mem_of_getElem? ho);have hbl:Below w.heap.size w wr:=by
       obtain⟨s,hst,_⟩:=hE.ex;exact hst.below HB.out.1 HB.out.2
      obtain⟨b,f,rfl,hb,x0,x1,x2⟩:=(HSc.out.1.later hbl) k o ho;have FV:Hid (Calls prog 34 #[Pt L 0,.agg #[Im o.kind,Im o.a,Im o.b]] wr fun e w'=>∃v:Int,e=.returned (Im v)/\Hid (acD w2 tag L bs (q+1+(k+1)) w')):=hE.UA (by omega) (by omega) n1 n2 n3;clear hE ho n1 n2 n3 hbl;obtain⟨okd,oa,ob⟩:=o;go_wp2_with (go_at_call 34;refine FV.out.mono ?_;rintro e w4 ⟨v,rfl,HE⟩);go_roundg g'
      case measure=>omega
      case rel=>exact⟨k+1,by omega,by omega,by go_num,HE.out⟩
     .have d2:decide ((k:Int)<(l.length:Int))=false:=decide_eq_false (by omega);have hkl:k=l.length:=by omega
      subst hkl;obtain⟨k0,hk0⟩:∃k0,q+1+l.length=k0:=⟨_,rfl⟩;rw[hk0]at hE;have afR:0<k0/\k0<=1048600:=by omega
      obtain⟨s,⟨t1,hl1,f1⟩,ho,hp⟩:=hE.ex;have hs:=ho.small ((ae5 afR.2).less (by omega) (by omega) (by omega) (Nat.le_refl _));have zA:=bC (hl1.stated hs);have RJ:Hid (Lf w2 tag wr t1/\lF s (vM k0) (Cj k0) (256 * k0) k0/\0<s.acc):=⟨f1,ho,hp afR.1⟩;have hbc:=ho.bd.acc;have hak:s.dA<=s.acc:=Nat.le_trans ho.sn.ak ho.sn.dl;clear hE hl1 f1 ho hp hs hk0 HSc;obtain⟨m,hm⟩:∃m,s.acc-s.dA=m:=⟨_,rfl⟩;have hmI:(s.acc:Int)-(s.dA:Int)=(m:Int):=by omega
      obtain⟨m9,hm9⟩:∃m9,9 * m=m9:=⟨_,rfl⟩;have alP:(9:Int) * (m:Int)=(m9:Int):=by omega
      obtain⟨N,hN⟩:∃N,m9+9=N:=⟨_,rfl⟩;have hNI:(m9:Int)+9=(N:Int):=by omega
      have hNb:N<=9 * k0+9:=by omega
      have hTN:abD s<=N:=by unfold abD;omega
      rename World=>w6;go_upto_region 17 with fail;refine wp_region_lit ?_;refine wpList_plain rfl fun K hK=>?_;go_simp;refine hK _ _ ?_;clear hK K;refine wpList_plain rfl fun K hK=>?_;go_simp;go_at_call 37;refine(zA.out _ (by simp)).mono ?_;rintro e w3 ⟨a1,c1,a2,c2,a3,c3,a4,c4,a5,c5,a6,c6,rfl,HA⟩;refine hK _ _ ?_;clear hK K zA;refine wpList_plain rfl fun K hK=>?_;go_simp;refine hK _ _ ?_;clear hK K;refine wpList_store_mid rfl _ _ _ rfl w3.heap.size 0 (List.toArray (stL s a1 c1 a2 c2 a3 c3 a4 c4 a5 c5 a6 c6)) rfl rfl (MI (heap_alloc_new w3 _) (by simp)) (by kernel_rfl) (by simp[Value.oneCell']) ?_;obtain⟨W,hW,hB,hgW⟩:=aaB w3 (stL s a1 c1 a2 c2 a3 c3 a4 c4 a5 c5 a6 c6) stZ 93 rfl;rw[List.toList_toArray,hW];clear hW;obtain⟨hTd,hLn,hgr⟩:=HA.out W hB hgW;obtain⟨b1,d1',b2,d2',b4,d4',g5,d5,g6,d6,⟨z1,z2⟩,⟨e0,_,e2,_⟩,_⟩:=hTd;have H2:Hid (fZ W t1 L bs s/\Lf w2 tag W t1/\lF s (vM k0) (Cj k0) (256 * k0) k0/\0<s.acc):=⟨hLn,RJ.out.1.trans (Lf.grown hgr),RJ.out.2⟩;clear HA hB hgW hLn hgr RJ z2;generalize w3.heap.size=B at *;go_wp2_with fail;go_loopg [17] (N+1) (fun gg i wr=>Hid (∃mm:Nat,mm+gg=N+1/\mm<=N/\i=Im mm/\acU w2 tag L bs k0 mm (abD s) wr))
      case atStart=>exact⟨0,by omega,Nat.zero_le _,rfl,⟨s,⟨t1,H2.out.1.grow (by simp),H2.out.2.1.trans (Lf.grown (by simp))⟩,H2.out.2.2.1.mono (by omega) (by omega) (by omega) (Nat.le_refl _),Or.inl (by omega),H2.out.2.2.2⟩⟩
      case round=>
       obtain⟨mm,hm1,hm2,rfl,hR⟩:=hrel.out;clear hrel H2 e0 e2 z1;obtain⟨σ,⟨t1,hl1,f1⟩,ho,hnr,hp⟩:=hR.ex;have hfi:=acU.vS afR.2 (by omega:mm<=9 * k0+9);have hs:=ho.small (hfi.less (by omega) (by omega) (by omega) (Nat.le_refl _));have zA:=bC (hl1.stated hs);clear hR;by_cases hlt3:mm<N
       .have d3:decide ((mm:Int)<(N:Int))=true:=decide_eq_true (by omega);obtain⟨gm,hgm⟩:∃gm,gk=gm+1:=⟨gk-1,by omega⟩;have hok:=hl1.ok;have htk:=hl1.tk;have hn4:=hok.ah;have HTi:Hid (∀W y,fZ W t1 L bs σ->W.grownBy y none->Calls prog 38 #[Pt L 0] y fun e w'=>e=.returned (.tuple #[])/\Hid (Stepped W t1 L bs (σ.tick bs) w')):=fun W y hl hy=>((hl.grow hy).tick ho (hfi.less (by omega) (by omega) (by omega) (Nat.le_refl _))).mono fun e w' ⟨h1,h2⟩=>⟨h1,h2.back hy⟩;have hlen0:(σ.tick bs).ah.length=σ.ah.length:=alr σ bs;have ho0:lF (σ.tick bs) (vM k0+289 * mm+1) (Cj k0+36 * mm) (256 * k0+256 * mm+256) k0:=(ho.tick hok hs htk (p:=over σ.ah) (t:=8 * over σ.ah+σ.quiet.toNat) (Nat.le_refl _) (Nat.le_refl _)).1;have Uw:∀i,i<(σ.tick bs).ah.length->o7 (σ.tick bs) i<=o7 σ i+9:=fun i hi=>agC ho hok hs htk i (by omega);have H3:Hid (Lf w2 tag wr t1/\acU.Next σ bs k0 mm (abD s)):=⟨f1,(alo ho hok hs htk).mono (by omega) (by omega) (by omega) (Nat.le_refl _),hnr.round ho hok hs htk,by rw[(ajI ho hok hs htk).2.1];exact hp⟩;have H3b:Hid (lF (σ.tick bs) (vM k0+289 * mm+1) (Cj k0+36 * mm) (256 * k0+256 * mm+256) k0/\∀i,i<(σ.tick bs).ah.length->o7 (σ.tick bs) i<=o7 σ i+9):=⟨ho0,Uw⟩;have H3c:=bC hfi;obtain⟨s0,hs0⟩:∃s0,σ.tick bs=s0:=⟨_,rfl⟩;rw[hs0]at hlen0 H3b;have Hs0:=bC hs0;have HLn:=bC hlen0;clear hl1 f1 ho hnr hp hfi hs hok htk ho0 Uw hs0 hlen0;rename World=>w6;go_upto_region 22 with fail;refine wp_region_lit ?_;refine wpList_plain rfl fun K hK=>?_;go_simp;refine hK _ _ ?_;clear hK K
        refine wpList_plain rfl fun K hK=>?_;go_simp;go_at_call 37;refine(zA.out _ (by simp)).mono ?_;rintro e w3 ⟨a1,c1,a2,c2,a3,c3,a4,c4,a5,c5,a6,c6,rfl,HA⟩;refine hK _ _ ?_;clear hK K zA;refine wpList_plain rfl fun K hK=>?_;go_simp;refine hK _ _ ?_;clear hK K;refine wpList_store_mid rfl _ _ _ rfl w3.heap.size 0 (List.toArray (stL σ a1 c1 a2 c2 a3 c3 a4 c4 a5 c5 a6 c6)) rfl rfl (MI (heap_alloc_new w3 _) (by simp)) (by kernel_rfl) (by simp[Value.oneCell']) ?_;obtain⟨W1,hW,hB,hgW⟩:=aaB w3 (stL σ a1 c1 a2 c2 a3 c3 a4 c4 a5 c5 a6 c6) stZ 93 rfl;rw[List.toList_toArray,hW];clear hW;obtain⟨hTd,hLn,hgr⟩:=HA.out W1 hB hgW;have BR:Hid (∀y,W1.grownBy y none->Calls prog 38 #[Pt L 0] y fun e w'=>e=.returned (.tuple #[])/\Hid (Stepped W1 t1 L bs (σ.tick bs) w')):=fun y hy=>HTi.out W1 y hLn hy;have HT1:Hid (Told W1 t1 w3.heap.size σ/\Lf w2 tag W1 t1):=⟨hTd,H3.out.1.trans (Lf.grown hgr)⟩;clear HA hB hgW hLn hgr HTi hTd;generalize w3.heap.size=B1 at *;go_upto_region 24 with(go_at_call 38;refine(BR.out _ (by simp)).mono ?_;rintro e w4 ⟨rfl,wU⟩);obtain⟨t2,hl2,f2⟩:=wU.out;rw[Hs0.out]at hl2;have zA:=bC (hl2.stated (H3b.out.1.small (H3c.out.less (by omega) (by omega) (by omega) (Nat.le_refl _))));have HT2:Hid (Told w4 t2 B1 σ/\Lf w2 tag w4 t2):=⟨HT1.out.1.aN f2,HT1.out.2.trans f2⟩;clear wU hl2 f2 BR HT1;go_upto_region 24 with fail
        refine wp_region_lit ?_;refine wpList_plain rfl fun K hK=>?_;go_simp;refine hK _ _ ?_;clear hK K;refine wpList_plain rfl fun K hK=>?_;go_simp;go_at_call 37;refine(zA.out _ (by simp)).mono ?_;rintro e w5 ⟨a1,c1,a2,c2,a3,c3,a4,c4,a5,c5,a6,c6,rfl,HA⟩;refine hK _ _ ?_;clear hK K zA;refine wpList_plain rfl fun K hK=>?_;go_simp;refine hK _ _ ?_;clear hK K;refine wpList_store_mid rfl _ _ _ rfl w5.heap.size 0 (List.toArray (stL s0 a1 c1 a2 c2 a3 c3 a4 c4 a5 c5 a6 c6)) rfl rfl (MI (heap_alloc_new w5 _) (by simp)) (by kernel_rfl) (by simp[Value.oneCell']) ?_;obtain⟨W2,hW,hB,hgW⟩:=aaB w5 (stL s0 a1 c1 a2 c2 a3 c3 a4 c4 a5 c5 a6 c6) stZ 93 rfl;rw[List.toList_toArray,hW];clear hW;obtain⟨hTd,hLn,hgr⟩:=HA.out W2 hB hgW;have H4:Hid (Told W2 t2 B1 σ/\Told W2 t2 w5.heap.size s0/\fZ W2 t2 L bs s0/\Lf w2 tag W2 t2/\lF s0 (vM k0+289 * mm+1) (Cj k0+36 * mm) (256 * k0+256 * mm+256) k0/\xX (vM k0+289 * mm+1) (Cj k0+36 * mm+36) (256 * k0+256 * mm+256) k0/\∀i,i<s0.ah.length->o7 s0 i<=o7 σ i+9):=⟨HT2.out.1.aN (Lf.grown hgr),hTd,hLn,HT2.out.2.trans (Lf.grown hgr),H3b.out.1,H3c.out.less (by omega) (by omega) (by omega) (Nat.le_refl _),H3b.out.2⟩;clear HA hB hgW hLn hgr hTd HT2 H3b;generalize w5.heap.size=B2 at *;go_upto_block 6 with fail;go_cut [] (fun wx=>Hid (Stepped W2 t2 L bs (s0.ZX (o9 (o7 σ) (o7 s0) s0.ah.length)) wx))
        case first=>
         go_wp2_with fail;go_loopg [20] (s0.ah.length+1) (fun gg i wr=>Hid (∃r:Nat,r+gg=s0.ah.length+1/\r<=s0.ah.length/\i=Im r/\Stepped W2 t2 L bs (s0.ZX (o9 (o7 σ) (o7 s0) r)) wr))
         case atStart=>exact⟨0,by omega,Nat.zero_le _,rfl,(Stepped.refl H4.out.2.2.1).more (by simp)⟩
         case round=>
          obtain⟨r,hr1,hr2,rfl,hSt⟩:=hrel.out;clear hrel;obtain⟨t7,hl7,f7⟩:=id hSt;obtain⟨a1,c1,a2,c2,a4,c4,g5,c5,g6,c6,_,⟨_,_,_,_,_,_,x8,x9⟩,⟨x1,x2,x3⟩,⟨y1,y2,y3⟩⟩:=H4.out.1.aN f7;obtain⟨b1,d1,b2,d2,b4,d4,h5,d5,h6,d6,_,⟨_,_,_,v4,_,_,v8,v9⟩,_,_⟩:=H4.out.2.1.aN f7;by_cases hlt4:r<s0.ah.length
          .have e1:decide ((r:Int)<(s0.ah.length:Int))=true:=decide_eq_true (by omega);have hr4:r<4:=by have:=HLn.out;omega
           have i0:(0:Int)<=(r:Int):=by omega
           have i1:(r:Int)<(s0.ah.length:Int):=by omega
           have i2:(r:Int)<(σ.ah.length:Int):=by have:=HLn.out;omega
           obtain⟨gr,hgr⟩:∃gr,gk=gr+1:=⟨gk-1,by omega⟩;have z5:=x3 r (by have:=HLn.out;omega);obtain⟨fr,hfr⟩:∃fr,o7 σ r=fr:=⟨_,rfl⟩;obtain⟨br,hbr⟩:∃br,o7 s0 r=br:=⟨_,rfl⟩;have hbb:o7 s0 r<=100000000000000:=(ajc H4.out.2.2.2.2.1 (H4.out.2.2.2.2.2.1.less (by omega) (by omega) (Nat.le_refl _) (Nat.le_refl _)) hlt4).1;rw[hfr]at z5;rw[hbr]at hbb;have H5:Hid (o7 σ r=fr/\o7 s0 r=br/\Stepped W2 t2 L bs (s0.ZX (upTo (o7 σ) (o7 s0) r fr)) wr):=⟨hfr,hbr,by rw[<-hfr,ajR];exact hSt⟩;clear hSt hl7 f7 x3 y3 hfr hbr x2 y2;go_wp2_with fail;go_loopg [21] (br+1) (fun gg i wr=>Hid (∃k:Nat,br+1<=k+gg/\fr<=k/\(k<=br\/k=fr)/\i=Im k/\Stepped W2 t2 L bs (s0.ZX (upTo (o7 σ) (o7 s0) r k)) wr))
           case atStart=>exact⟨fr,by omega,Nat.le_refl _,Or.inr rfl,rfl,H5.out.2.2.more (by simp)⟩
           case round=>
            obtain⟨k,hk5,hk6,hk7,rfl,hSt⟩:=hrel.out;clear hrel x8 x9 v4 v8 v9 z5;obtain⟨t7,hl7,f7⟩:=id hSt;obtain⟨b1,d1,b2,d2,b4,d4,g5,d5,g6,d6,_,⟨_,_,_,v4,_,_,v8,v9⟩,⟨x1,x2,x3⟩,⟨y1,y2,y3⟩⟩:=H4.out.2.1.aN f7;have z5:=x3 r (by omega);rw[H5.out.2.1]at z5;clear hl7 f7 x3 y3 x2 y2;by_cases aj6:k<br
            .have e2:decide ((k:Int)<(br:Int))=true:=decide_eq_true (by omega);obtain⟨g',hg'⟩:∃g',gk=g'+1:=⟨gk-1,by omega⟩;have HAr:Hid (∀y,wr.grownBy y none->Calls prog 39 #[Pt L 0,Im (r:Int),Im (k:Int)] y fun e w'=>e=.returned (Im 0)/\Hid (Stepped W2 t2 L bs (s0.ZX (upTo (o7 σ) (o7 s0) r (k+1))) w')):=fun y hy=>(hSt.more hy).lu H4.out.2.2.2.2.1 H4.out.2.2.2.2.2.1 (by have:=HLn.out;omega) hlt4 H4.out.2.2.2.2.2.2 (by rw[H5.out.1];exact hk6) (by rw[H5.out.2.1];exact aj6);have e3:((0:Int)!=0)=false:=rfl;clear hSt;go_wp2_with (go_at_call 39;refine(HAr.out _ (by simp)).mono ?_;rintro e w9 ⟨rfl,HS9⟩);go_roundg g'
             case measure=>omega
             case rel=>exact⟨k+1,by omega,by omega,by omega,by go_num,HS9.out⟩
            .have e2:decide ((k:Int)<(br:Int))=false:=decide_eq_false (by omega);have H6:Hid (∀y,wr.grownBy y none->Stepped W2 t2 L bs (s0.ZX (o9 (o7 σ) (o7 s0) (r+1))) y):=fun y hy=>by
              rw[<-ajM (k:=k) (by rw[H5.out.2.1];omega) (by rw[H5.out.2.1,H5.out.1];exact hk7)];exact hSt.more hy
             clear hSt;go_wp2_with fail;go_roundg gr
             case measure=>omega
             case rel=>exact⟨r+1,by omega,by omega,by go_num,H6.out _ (by simp)⟩
          .have e1:decide ((r:Int)<(s0.ah.length:Int))=false:=decide_eq_false (by omega);have hre:r=s0.ah.length:=by omega
           have H6:Hid (∀y,wr.grownBy y none->Stepped W2 t2 L bs (s0.ZX (o9 (o7 σ) (o7 s0) s0.ah.length)) y):=fun y hy=>by
            rw[<-hre];exact hSt.more hy
           clear hSt hl7 f7 x3 y3 x2 y2 hre;go_wp2_with fail;go_meet;exact H6.out _ (by simp)
        case rest=>
         obtain⟨t3,hl3,f3⟩:=hcut.out;obtain⟨o1,o2,o3⟩:=aln H4.out.2.2.2.2.1 (by have:=HLn.out;omega) (o7 σ) H4.out.2.2.2.2.2.2;obtain⟨s1,hs1⟩:∃s1,s0.ZX (o9 (o7 σ) (o7 s0) s0.ah.length)=s1:=⟨_,rfl⟩;rw[hs1]at hl3 o1 o2 o3;have Hs1:=bC hs1;have hf1:xX (vM k0+289 * mm+1+288) (Cj k0+36 * mm+36) (256 * k0+256 * mm+256) k0:=H3c.out.less (by omega) (by omega) (by omega) (Nat.le_refl _);have zA:=bC (hl3.stated (o1.small (hf1.less (by omega) (by omega) (by omega) (Nat.le_refl _))));have HT3:Hid (Told wc t3 B2 s0/\Lf w2 tag wc t3):=⟨H4.out.2.1.aN f3,H4.out.2.2.2.1.trans f3⟩;have H7:Hid (lF s1 (vM k0+289 * mm+1) (Cj k0+36 * mm+36) (256 * k0+256 * mm+256) k0/\xX (vM k0+289 * mm+1+288) (Cj k0+36 * mm+36) (256 * k0+256 * mm+256) k0/\∀i,i<s1.ah.length->o8 s1 i<=o8 s0 i+9):=⟨o1,hf1,o3⟩;have HLm:=bC o2;clear hcut hl3 f3 o1 o2 o3 hs1 hf1 H4 H3c;rename World=>w6;go_upto_region 34 with fail;refine wp_region_lit ?_;refine wpList_plain rfl fun K hK=>?_;go_simp;refine hK _ _ ?_;clear hK K;refine wpList_plain rfl fun K hK=>?_;go_simp;go_at_call 37;refine(zA.out _ (by simp)).mono ?_;rintro e w7 ⟨a1,c1,a2,c2,a3,c3,a4,c4,a5,c5,a6,c6,rfl,HA⟩;refine hK _ _ ?_;clear hK K zA;refine wpList_plain rfl fun K hK=>?_;go_simp;refine hK _ _ ?_;clear hK K
         refine wpList_store_mid rfl _ _ _ rfl w7.heap.size 0 (List.toArray (stL s1 a1 c1 a2 c2 a3 c3 a4 c4 a5 c5 a6 c6)) rfl rfl (MI (heap_alloc_new w7 _) (by simp)) (by kernel_rfl) (by simp[Value.oneCell']) ?_;obtain⟨W3,hW,hB,hgW⟩:=aaB w7 (stL s1 a1 c1 a2 c2 a3 c3 a4 c4 a5 c5 a6 c6) stZ 93 rfl;rw[List.toList_toArray,hW];clear hW;obtain⟨hTd,hLn,hgr⟩:=HA.out W3 hB hgW;have H8:Hid (Told W3 t3 B2 s0/\Told W3 t3 w7.heap.size s1/\fZ W3 t3 L bs s1/\Lf w2 tag W3 t3/\lF s1 (vM k0+289 * mm+1) (Cj k0+36 * mm+36) (256 * k0+256 * mm+256) k0/\xX (vM k0+289 * mm+1+288) (Cj k0+36 * mm+36) (256 * k0+256 * mm+256) k0/\∀i,i<s1.ah.length->o8 s1 i<=o8 s0 i+9):=⟨HT3.out.1.aN (Lf.grown hgr),hTd,hLn,HT3.out.2.trans (Lf.grown hgr),H7.out⟩;clear HA hB hgW hLn hgr hTd HT3 H7;generalize w7.heap.size=B3 at *;go_wp2_with fail;go_wp2_with fail;go_loopg [24] (s1.ah.length+1) (fun gg i wr=>Hid (∃r:Nat,r+gg=s1.ah.length+1/\r<=s1.ah.length/\i=Im r/\Stepped W3 t3 L bs (s1.abC (o9 (o8 s0) (o8 s1) r)) wr))
         case atStart=>exact⟨0,by omega,Nat.zero_le _,rfl,(Stepped.refl H8.out.2.2.1).more (by simp)⟩
         case round=>
          obtain⟨r,hr1,hr2,rfl,hSt⟩:=hrel.out;clear hrel;obtain⟨t7,hl7,f7⟩:=id hSt;obtain⟨a1,c1,a2,c2,a4,c4,g5,c5,g6,c6,_,⟨_,_,_,_,_,_,x8,x9⟩,⟨x1,x2,x3⟩,⟨y1,y2,y3⟩⟩:=H8.out.1.aN f7;obtain⟨b1,d1,b2,d2,b4,d4,h5,d5,h6,d6,_,⟨_,_,_,v4,_,_,v8,v9⟩,_,_⟩:=H8.out.2.1.aN f7;by_cases hlt4:r<s1.ah.length
          .have e1:decide ((r:Int)<(s1.ah.length:Int))=true:=decide_eq_true (by omega);have hr4:r<4:=by have:=HLn.out;have:=HLm.out;omega
           have i0:(0:Int)<=(r:Int):=by omega
           have i1:(r:Int)<(s1.ah.length:Int):=by omega
           have i2:(r:Int)<(s0.ah.length:Int):=by have:=HLn.out;have:=HLm.out;omega
           obtain⟨gr,hgr⟩:∃gr,gk=gr+1:=⟨gk-1,by omega⟩;have z5:=y3 r (by have:=HLn.out;have:=HLm.out;omega);obtain⟨fr,hfr⟩:∃fr,o8 s0 r=fr:=⟨_,rfl⟩;obtain⟨br,hbr⟩:∃br,o8 s1 r=br:=⟨_,rfl⟩;have hbb:o8 s1 r<=100000000000000:=(ajc H8.out.2.2.2.2.1 (H8.out.2.2.2.2.2.1.less (by omega) (by omega) (Nat.le_refl _) (Nat.le_refl _)) hlt4).2;rw[hfr]at z5;rw[hbr]at hbb;have H5:Hid (o8 s0 r=fr/\o8 s1 r=br/\Stepped W3 t3 L bs (s1.abC (upTo (o8 s0) (o8 s1) r fr)) wr):=⟨hfr,hbr,by rw[<-hfr,ajR];exact hSt⟩;clear hSt hl7 f7 x3 y3 hfr hbr x2 y2;go_wp2_with fail;go_loopg [25] (br+1) (fun gg i wr=>Hid (∃k:Nat,br+1<=k+gg/\fr<=k/\(k<=br\/k=fr)/\i=Im k/\Stepped W3 t3 L bs (s1.abC (upTo (o8 s0) (o8 s1) r k)) wr))
           case atStart=>exact⟨fr,by omega,Nat.le_refl _,Or.inr rfl,rfl,H5.out.2.2.more (by simp)⟩
           case round=>
            obtain⟨k,hk5,hk6,hk7,rfl,hSt⟩:=hrel.out;clear hrel x8 x9 v4 v8 v9 z5;obtain⟨t7,hl7,f7⟩:=id hSt;obtain⟨b1,d1,b2,d2,b4,d4,g5,d5,g6,d6,_,⟨_,_,_,v4,_,_,v8,v9⟩,⟨x1,x2,x3⟩,⟨y1,y2,y3⟩⟩:=H8.out.2.1.aN f7;have z5:=y3 r (by omega);rw[H5.out.2.1]at z5;clear hl7 f7 x3 y3 x2 y2;by_cases aj6:k<br
            .have e2:decide ((k:Int)<(br:Int))=true:=decide_eq_true (by omega);obtain⟨g',hg'⟩:∃g',gk=g'+1:=⟨gk-1,by omega⟩;have HAr:Hid (∀y,wr.grownBy y none->Calls prog 40 #[Pt L 0,Im (r:Int),Im (k:Int)] y fun e w'=>e=.returned (Im 0)/\Hid (Stepped W3 t3 L bs (s1.abC (upTo (o8 s0) (o8 s1) r (k+1))) w')):=fun y hy=>(hSt.more hy).lZ H8.out.2.2.2.2.1 H8.out.2.2.2.2.2.1 (by have:=HLn.out;have:=HLm.out;omega) hlt4 H8.out.2.2.2.2.2.2 (by rw[H5.out.1];exact hk6) (by rw[H5.out.2.1];exact aj6);have e3:((0:Int)!=0)=false:=rfl;clear hSt;go_wp2_with (go_at_call 40;refine(HAr.out _ (by simp)).mono ?_;rintro e w9 ⟨rfl,HS9⟩);go_roundg g'
             case measure=>omega
             case rel=>exact⟨k+1,by omega,by omega,by omega,by go_num,HS9.out⟩
            .have e2:decide ((k:Int)<(br:Int))=false:=decide_eq_false (by omega);have H6:Hid (∀y,wr.grownBy y none->Stepped W3 t3 L bs (s1.abC (o9 (o8 s0) (o8 s1) (r+1))) y):=fun y hy=>by
              rw[<-ajM (k:=k) (by rw[H5.out.2.1];omega) (by rw[H5.out.2.1,H5.out.1];exact hk7)];exact hSt.more hy
             clear hSt;go_wp2_with fail;go_roundg gr
             case measure=>omega
             case rel=>exact⟨r+1,by omega,by omega,by go_num,H6.out _ (by simp)⟩
          .have e1:decide ((r:Int)<(s1.ah.length:Int))=false:=decide_eq_false (by omega);have hre:r=s1.ah.length:=by omega
           obtain⟨t4,hl4,f4⟩:=hSt;have hrd:s1.abC (o9 (o8 s0) (o8 s1) r)=σ.round bs:=by
            rw[hre];unfold Hx.aO.round Hx.aO.acN;rw[Hs0.out,<-HLn.out,Hs1.out,HLm.out]
           rw[hrd]at hl4;have H9:Hid (∀y,wr.grownBy y none->acU w2 tag L bs k0 (mm+1) (abD s) y):=fun y hy=>⟨σ.round bs,(Stepped.more ⟨t4,hl4,H8.out.2.2.2.1.trans f4⟩ hy),H3.out.2⟩;clear hl4 f4 hrd H8 H3 hl7 f7 x3 y3 x2 y2 hre;go_wp2_with fail;go_roundg gm
           case measure=>omega
           case rel=>exact⟨mm+1,by omega,by omega,by go_num,H9.out _ (by simp)⟩
       .have d3:decide ((mm:Int)<(N:Int))=false:=decide_eq_false (by omega);obtain⟨k1,k2,k3,k4⟩:=hnr.done ho.sn (by omega);have H3:=bC f1;have q1:((σ.acc:Int)==(σ.acc:Int))=true:=by simp
        have q2:decide ((0:Int)<(σ.acc:Int))=true:=decide_eq_true (by omega);have q3:decide (0<σ.acc)=true:=decide_eq_true hp;clear f1 ho hnr hfi hs hl1;rename World=>w6;go_upto_region 44 with fail;refine wp_region_lit ?_;refine wpList_plain rfl fun K hK=>?_;go_simp;refine hK _ _ ?_;clear hK K;refine wpList_plain rfl fun K hK=>?_;go_simp;go_at_call 37;refine(zA.out _ (by simp)).mono ?_;rintro e w3 ⟨a1,c1,a2,c2,a3,c3,a4,c4,a5,c5,a6,c6,rfl,HA⟩;refine hK _ _ ?_;clear hK K zA;refine wpList_plain rfl fun K hK=>?_;go_simp;refine hK _ _ ?_;clear hK K;refine wpList_store_mid rfl _ _ _ rfl w3.heap.size 0 (List.toArray (stL σ a1 c1 a2 c2 a3 c3 a4 c4 a5 c5 a6 c6)) rfl rfl (MI (heap_alloc_new w3 _) (by simp)) (by kernel_rfl) (by simp[Value.oneCell']) ?_;obtain⟨W1,hW,hB,hgW⟩:=aaB w3 (stL σ a1 c1 a2 c2 a3 c3 a4 c4 a5 c5 a6 c6) stZ 93 rfl;rw[List.toList_toArray,hW];clear hW;obtain⟨hTd,hLn,hgr⟩:=HA.out W1 hB hgW;obtain⟨b1,d1',b2,d2',b4,d4',g5,d5,g6,d6,⟨z1,z2⟩,⟨e0,e1,e2,_,e5,e7,_⟩,_⟩:=hTd;rw[k2]at e1;rw[k1]at e2;rw[k3,List.length_nil]at e5;rw[k4,List.length_nil]at e7;have lJ:Hid (Below w.heap.size w W1):=Stepped.below ⟨t1,hLn,H3.out.trans (Lf.grown hgr)⟩ HB.out.1 HB.out.2;clear HA hB hgW hLn hgr H3 z2 k1 k2 k3 k4;generalize w3.heap.size=B1 at *;generalize σ.acc=ac at *;go_wp2_with fail;go_ret;exact⟨rfl,lJ.out⟩
end
end
section
open Go.ChangeShapes Go.WideShapes Go.ChangeAt Go.RowKit Go.Deep
open Go.ChangeMaps (open_string shut_string)
theorem aky(os:Os)(args:Array Value):laidMetH prog Rows.endsUptoRow.laid ((World.doorLaid prog 62 os).forCall (fun _ _=>0) ⟨#[],args,[]⟩).memory:=
 laidMetH_of_parts3 (fuel:=8) (laidMet_of_run' 8 (by kernel_rfl) (by kernel_rfl)) (by kernel_rfl) (by kernel_rfl)
theorem akG{W:World}(h:laidMetH prog Rows.endsUptoRow.laid W):mZ W/\1<W.heap.size:=by
 rw[MakeChecks.laidMetH_plain _ _ _ (by kernel_rfl)]at h;have t:laidMet prog (("math/bits.deBruijn64tab",Lib.tabData .u8 (Lib.deBruijn64tab.map fun(n:Nat)=>(n:Int)))::Rows.endsUptoRow.laid.drop 2) W:=laidMet.tail h;have u:=Lib.tabIs_of_head XB ahn Tryz.underlying306 Tryz.underlying5 (by kernel_rfl) (by kernel_rfl) t;have v:mZ W:=fun j hj=>by
  have hl:Lib.deBruijn64tab.length=64:=by decide+kernel
  have hj':j<Lib.deBruijn64tab.length:=by omega
  have c:=u.cell XB j (by simpa using hj');rw[c];simp[List.getD,List.getElem?_eq_getElem hj']
 exact⟨v,World.block_lt_of_cell? W _ (v 0 (by omega))⟩
theorem akD(os:Os){H:Type}(enc:TypeId×Value->H):∃places,DataW.whole enc prog ((World.doorLaid prog 62 os).forCall (fun _ _=>0) ⟨#[],#[.string ByteArray.empty,.string ByteArray.empty,Im 0,Nl,Im 0],[]⟩).memory Tryz.f10.params.toList Rows.endsSpec.vars false #[Value.string ByteArray.empty,.string ByteArray.empty,Im 0,Nl,Im 0].toList 8=some ([.lit (.string []),.lit (.string []),.lit (.int .i64 0),.nil,.lit (.int .i64 0)],[],places):=
 ⟨[],by kernel_rfl⟩
theorem akB(os:Os)(started:os.Started)(H:Type)(enc:TypeId×Value->H)(F:Stop.Interp):
 ReturnsInHanded {} Tryz.checked os 10 .any ((Rows.OpenSpec.upto Rows.endsSpec).preRow enc prog Tryz.f10 Rows.endsUptoRow.domain false Rows.endsUptoRow.laid) (((Rows.OpenSpec.upto Rows.endsSpec).at F).post enc prog Tryz.f10 false true false false):=by
 obtain⟨places,hx⟩:=akD os enc;refine returnsInHanded_of_row (C:=Tryz.checked) (s:=Rows.OpenSpec.upto Rows.endsSpec) ace started (by kernel_rfl) func10
  (witness_row_atRef (enc:=enc) (C:=Tryz.checked) false (World.doorLaid prog 62 os) #[.string ByteArray.empty,.string ByteArray.empty,Im 0,Nl,Im 0] rfl (by kernel_rfl) (by kernel_rfl) (by kernel_rfl)
    (OpenSpec.preRow_of_cond 8 hx (by kernel_rfl) (fun k hk=>by cases hk;kernel_rfl) (by kernel_rfl) (aky os _))) ?_
 intro W base args ds gs before hval0 hW _ hcond _ hL _ _;have hval:∀(j:Nat) t v,Tryz.f10.params[j]? =some t->args[j]? =some v->Value.okWide prog W .any base t v:=hval0;have abX:=hcond _ rfl;have hW':=hW;obtain⟨p,q,hA0,hV,rfl,hfz,hnd⟩:=hW;have hA:DataW.TrodAll enc prog W 0 (fun _=>true) true Tryz.f10.params.toList args.toList ds p:=hA0;rw[Tryz.params10]at hA hval;obtain⟨v0,QW,d0,ds0,p0,q0,hargs,rfl,rfl,h0,r0⟩:=trodAll_cons hA;obtain⟨v1,vs1,d1,ds1,p1,q1,rfl,rfl,rfl,h1,r1⟩:=trodAll_cons r0;obtain⟨v2,vs2,d2,ds2,p2,q2,rfl,rfl,rfl,h2,r2⟩:=trodAll_cons r1;obtain⟨v3,vs3,d3,ds3,p3,q3,rfl,rfl,rfl,h3,r3⟩:=trodAll_cons r2;obtain⟨v4,vs4,d4,ds4,p4,q4,rfl,rfl,rfl,h4,r4⟩:=trodAll_cons r3;obtain⟨rfl,rfl,rfl⟩:=trodAll_nil r4;obtain rfl:args=#[v0,v1,v2,v3,v4]:=by cases args;simp_all
 obtain⟨rfl,rfl⟩:=trodVars_none hV;obtain⟨s,rfl,rfl,rfl,ws⟩:=open_string Tryz.underlying9 (hval 0 9 v0 rfl rfl) h0;obtain⟨s2,rfl,rfl,rfl,ws2⟩:=open_string Tryz.underlying9 (hval 1 9 v1 rfl rfl) h1;obtain⟨fu,rfl,rfl,rfl,wf⟩:=open_int Tryz.underlying3 (hval 2 3 v2 rfl rfl) h2;obtain⟨fw,rfl,rfl,rfl,wfw⟩:=open_int Tryz.underlying3 (hval 4 3 v4 rfl rfl) h4;have k3:=h3;have lt3:∀x∈p3,x.block<W.heap.size:=by obtain⟨m,hm⟩:=k3;exact DataW.trod_lt m _ _ _ hm
 obtain⟨n3,t3⟩:=h3;obtain⟨ad,len,cap,rs,hc3,_,hrl,hpk,hin⟩:=afI Tryz.underlying82 Tryz.underlying87 (by kernel_rfl) (by kernel_rfl) Tryz.underlying3 Tryz.underlying3 Tryz.underlying3 t3;have hv3:v3=.slice ad len cap:=by
  obtain⟨x1,x2,x3,rfl⟩:=okWide_slice Tryz.underlying82 (hval 3 82 v3 rfl rfl);simpa [Value.cells]using hc3
 subst hv3;have t3':DataW.trod enc prog W 0 (fun _=>true) true n3 82 [.slice ad len cap]=some (d3,p3):=t3;have hlen:len<=1048576:=by
  have hb1:len<=Rows.uptoBulk d3:=ah2 Tryz.underlying82 t3';have hb2:Rows.uptoBulkAll ([DataW.lit (H:=H) (.string s.data.toList),.lit (.string s2.data.toList),.lit (.int .i64 fu),d3,.lit (.int .i64 fw)]++[])<=1048576:=of_decide_eq_true abX;simp only[List.append_nil,Rows.uptoBulkAll]at hb2;omega
 obtain⟨hT,hone⟩:=akG hL;clear hA0 hval0;have hlm:(rs.map fun p=>(⟨p.seq,p.size,p.on⟩:Gg)).length=len:=by rw[List.length_map];exact hrl
 have key:=akw (w:=W) s s2 fu fw (KJ wf) (KJ wfw) ad cap (rs.map fun p=>⟨p.seq,p.size,p.on⟩) (by omega) (ahB hpk) (fun o ho=>by
  obtain⟨r,hr,rfl⟩:=List.mem_map.1 ho;exact hin r hr) hT hone
 rw[hlm]at key;refine key.mono fun e W' ⟨he,bel⟩=>?_;subst he;exact⟨_,rfl,_,_,_,[],_,[],hW',trodAll_mk1 (shut_bool Tryz.underlying4 _),(trodAll_cons_mk (shut_string Tryz.underlying9 ws) (trodAll_cons_mk (shut_string Tryz.underlying9 ws2) (trodAll_cons_mk (shut_int Tryz.underlying3 wf) (trodAll_cons_mk (Below.trod UF (by kernel_rfl) (of_decide_eq_true (by kernel_rfl)) k3 bel lt3) (trodAll_cons_mk (shut_int Tryz.underlying3 wfw) trodAll_mk0))))),rfl,bel.frame _,fun h=>by cases h⟩
theorem akF:Rows.EndsUptoSaid:=
 OpenClaim.holds_of_cond 10 Tryz.f10 rfl rfl rfl rfl rfl rfl rfl ⟨rfl,rfl,rfl,rfl,rfl⟩ rfl rfl rfl rfl rfl ajd func10 akx
  (of_decide_eq_true (by kernel_rfl)) (by unfold Func.isWrapper;first|(rw[if_pos (by decide+kernel)];kernel_rfl)|(rw[if_neg (by decide+kernel)];exact⟨rfl,rfl⟩))
  (fun os started H enc _ F=>by rw[OpenClaim.pre_eq_preRow];exact akB os started H enc F)
theorem ends_holds : Rows.EndsUptoCardSaid :=
 Claim7.holds_tied_plain_at .later [] [.data,.data,.data,.sentinel,.sentinel] true Rows.endsUptoCard.stood.harness true
  akF (fun _ h=>by cases h) akI (fun _ h=>by cases h) endsUpto_row_tie rfl ⟨rfl,rfl⟩ ab7 rfl
  (fun f fn hf hfn=>by
    obtain rfl:f=10:=(Option.some.inj (ajd.symm.trans hf)).symm;obtain rfl:fn=Tryz.f10:=(Option.some.inj (func10.symm.trans hfn)).symm;exact⟨ab6,fun j t ht=>by
     rw[Tryz.params10]at ht;have hm:t∈[9,9,3,82,3]:=by simpa using Array.mem_of_getElem? ht
     have hall:([9,9,3,82,3].all fun u=>!prog.wantsStandIn u)=true:=by kernel_rfl
     exact(show prog.wantsStandIn t=false by simpa using List.all_eq_true.1 hall t hm)⟩)
  akz
end
end Go.Proofs.YthllhabjfchgiaaGreatDoor
