import Derived.Test.YthllhabjfchgiaaGreatDoorHz46
import Derived.Test.YthllhabjfchgiaaGreatDoorTie
import Derived.Test.YthllhabjfchgiaaGreatDoorHz15
import Derived.LaidMore
import Derived.ShutString
import Derived.ChangeOld
import Derived.Stop.Joined
import Derived.Stop.LaidErr
import Derived.Lib.LaidTab
import Derived.SevenTiedAt
import Derived.JoinedCond
import Derived.Deep.DeepHandedRow
import Derived.Deep.DeepWitnessRowRef
set_option maxRecDepth 100000
set_option maxHeartbeats 8000000
namespace Go.Proofs.YthllhabjfchgiaaGreatDoor
open _root_.Go.Proofs.Tryz
attribute [local simp] World.grownBy.refl fG fH gB
section
open Go.RowKit Hx
attribute [local go_sem ↓] Go.wp_at_zero Go.wp_at_succ
attribute [local go_sem] bT
section
variable {w w' w2 w1 y:World}{tag tag':Nat->Nat}{L:Nat}{s s':aO}{bs:List UInt8}{g a wd c t:Nat}
theorem abV(h:fZ w tag L bs s)(hk:lF s g a wd c)(hf:xX g (a+g+1) wd c){kd A B:Int}(hkd:aZ kd)(hA:aZ A)(hB:aZ B):Calls prog 34 #[Pt L 0,.agg #[Im kd,Im A,Im B]] w fun e w'=>∃t:Nat,e=.returned (Im (t:Int))/\uF w tag L bs s t g a wd c w':=by
 have hfi:xX g a wd c:=⟨hf.g,by have:=hf.a;omega,hf.wd,hf.c⟩;have hs:=hk.small hfi;have hok:=h.ok;have hn1:0<s.ah.length:=Nat.lt_of_le_of_lt (Nat.zero_le _) hok.turn;have hn4:=hok.ah;obtain⟨p0,p1⟩:=Iy (c:=A) (n:=(s.ah.length:Int)) (by omega);obtain⟨ri,fB⟩:∃ri:Nat,mP A (s.ah.length:Int)=(ri:Int):=⟨(mP A (s.ah.length:Int)).toNat,by omega⟩;have hlt:ri<s.ah.length:=by omega
 obtain⟨r,hr⟩:∃r,s.ah[ri]? =some r:=⟨_,List.getElem?_eq_getElem hlt⟩;have i0:(0:Int)<=(ri:Int):=by omega
 have i1:(ri:Int)<(s.ah.length:Int):=by omega
 have zA:Hid (∀y,w.grownBy y none->y.heap[w.heap.size]? =some (.cells #[Im kd,Im A,Im B] 87)->Calls prog 37 #[Pt L 0] y fun e w'=>∃a1 a2 a3 a4 c1 c2 c3 c4 g5 c5 g6 c6,e=.returned (.agg #[Im (s.acc:Int),Im (s.bQ:Int),Im (s.dA:Int),Im (s.dN:Int),.slice a1 s.ah.length c1,.slice a2 s.aG.length c2,.slice a3 s.aJ.length c3,.slice a4 s.aP.length c4,.slice (some (Ad g5 0)) s.ah.length c5,.slice (some (Ad g6 0)) s.ah.length c6,Im s.r0,Im s.r1,Im s.r2,Im s.r3,Im s.r4,Im s.r5,Im s.r6,Im s.r7])/\(w'.cell? (Ad g5 ri)=some (Im (r.aT.length:Int))/\w'.cell? (Ad g6 ri)=some (Im (r.aX.length:Int)))/\(g5<w'.heap.size/\g6<w'.heap.size/\¬g5=w'.heap.size/\¬g6=w'.heap.size)/\((w'.cell? (Ad w.heap.size 0)=some (Im kd)/\w'.cell? (Ad w.heap.size 1)=some (Im A)/\w'.cell? (Ad w.heap.size 2)=some (Im B))/\w.heap.size<w'.heap.size/\¬w.heap.size=w'.heap.size)/\Hid (w.grownBy w' none)/\Hid (w.heap.size<g5/\w.heap.size<g6)):=fun y hy hyb=>by
  refine(h.asked hs hy hr).mono ?_;rintro e w' ⟨a1,a2,a3,a4,c1,c2,c3,c4,g5,c5,g6,c6,e1,e2,e3,e4,_,e5,e6,e7,e8⟩;have hb2:=(e8.block _ (dS hyb) (by simp)).trans hyb;have hl2:=dS hb2;have hl3:=dS hyb;exact⟨a1,a2,a3,a4,c1,c2,c3,c4,g5,c5,g6,c6,e1,e2,⟨e3,e4,by omega,by omega⟩,⟨⟨aA hb2,aA hb2,aA hb2⟩,hl2,by omega⟩,e5,by omega,by omega⟩
 have uo:Hid (∀y,Calls prog 28 #[Im A,Im (s.ah.length:Int)] y fun e w'=>e=.returned (Im (ri:Int))/\w'=y):=fun y=>by rw[<-fB];exact Fh y A _ hA (by omega) (by omega)
 obtain⟨kb0,kb1⟩:=Iy (c:=kd) (n:=8) (by omega);have F6:Hid (∀y,Calls prog 28 #[Im kd,Im 8] y fun e w'=>e=.returned (Im (mP kd 8))/\w'=y):=fun y=>Fh y kd 8 hkd (by omega) (by omega);have hsm:=hs.aK ri r hr;have HWs:Hid (∀y,w.grownBy y none->uF w tag L bs s 0 g a wd c y):=fun y hy=>⟨s,(Stepped.refl h).more hy,Nx.same hk⟩;have Zd:Hid (∀y,Calls prog 28 #[Im A,Im 1000] y fun e w'=>e=.returned (Im (mP A 1000))/\w'=y):=fun y=>Fh y A 1000 hA (by omega) (by omega);obtain⟨m0,m1⟩:=Iy (c:=A) (n:=1000) (by omega);have qI:Hid (∀y size,w.grownBy y none->Calls prog 36 #[Pt L 0,Im size] y fun e w'=>∃x,e=.returned (Im x)/\Hid (uF w tag L bs s 0 g a wd c w')):=fun y size hy=>h.wrote hk hfi hy size;have Rz:Hid (∀y,w.grownBy y none->Calls prog 38 #[Pt L 0] y fun e w'=>e=.returned (.tuple #[])/\Hid (uF w tag L bs s 1 g a wd c w')):=fun y hy=>h.aiQ hk hfi hy;have Y8:Hid (∀y aK,w.grownBy y none->Calls prog 65 #[Pt L 0,Im aK] y fun e w'=>∃x,e=.returned (Im x)/\Hid (uF w tag L bs s 0 g a wd c w')):=fun y aK hy=>h.lost hk hfi hy aK;have Y7:Hid (∀y aK k,w.grownBy y none->Calls prog 39 #[Pt L 0,Im aK,Im k] y fun e w'=>∃x,e=.returned (Im x)/\Hid (uF w tag L bs s 0 g a wd c w')):=fun y aK k hy=>h.ZW hk hfi hy aK k;have oh:Hid (∀y aK k,w.grownBy y none->Calls prog 40 #[Pt L 0,Im aK,Im k] y fun e w'=>∃x,e=.returned (Im x)/\Hid (uF w tag L bs s 0 g a wd c w')):=fun y aK k hy=>h.aX hk hfi hy aK k
 have Zc:Hid (0<r.aT.length->∀y,Calls prog 28 #[Im B,Im (r.aT.length:Int)] y fun e w'=>e=.returned (Im (mP B (r.aT.length:Int)))/\w'=y):=fun hz y=>Fh y B _ hB (by omega) (by omega);have Zb:Hid (0<r.aX.length->∀y,Calls prog 28 #[Im B,Im (r.aX.length:Int)] y fun e w'=>e=.returned (Im (mP B (r.aX.length:Int)))/\w'=y):=fun hz y=>Fh y B _ hB (by omega) (by omega);have hgs:r.aT.length<=g:=by have:=(hk.bd.aK ri r hr).aT;omega
 have Ji:Hid (∀(W3 wr:World)(k:Nat),w.grownBy W3 none->k<r.aT.length->Stepped W3 tag L bs (s.yA (ri:Int) k) wr->Calls prog 39 #[Pt L 0,Im (ri:Int),Im (k:Int)] wr fun e w'=>∃x,e=.returned (Im x)/\Hid (Stepped W3 tag L bs (s.yA (ri:Int) (k+1)) w')):=fun W3 wr k hg hkl ⟨t1,hl,hlf⟩=>by
  have ok1:=(NC hk (ri:Int) k).1;have f1:=hf.g;have f2:=hf.a;refine(hl.lu (ok1.small ⟨hf.g,by omega,hf.wd,hf.c⟩) ok1.sn (ri:Int) (k:Int)).mono ?_;rintro e w' ⟨e1,t2,hl2,acp⟩;exact⟨_,e1,t2,hl2,hlf.trans acp⟩
 have Rn:Hid (∀(W3 wr:World)(s1:aO)(b:Nat),w.grownBy W3 none->Stepped W3 tag L bs s1 wr->w.heap.size<=b->b<W3.heap.size->wr.heap[b]? =W3.heap[b]?):=fun W3 wr s1 b hg hst hb hb2=>hst.block hb2 (h.new hb);have HFin:Hid (∀(W3 wr:World),w.grownBy W3 none->Stepped W3 tag L bs (s.yA (ri:Int) r.aT.length) wr->uF w tag L bs s 0 g a wd c wr):=fun W3 wr hg hst=>⟨_,hst.back hg,Nx.ZX hk (ri:Int) _ hgs⟩;have xZ:Hid (∀W3,w.grownBy W3 none->fZ W3 tag L bs s):=fun W3 hg=>h.grow hg;generalize mP A 1000=z at *;generalize mP kd 8=kk at *;clear hs hok hf hk h hfi;go_enter func34,ntmps34;go_upto_region 2 with(go_at_call 37;refine(zA.out _ (by simp) (by exact heap_alloc_new w _)).mono ?_;rintro e w2 ⟨a1,a2,a3,a4,c1,c2,c3,c4,g5,c5,g6,c6,rfl,⟨q5,q6⟩,⟨l5,l6,l7,l8⟩,⟨⟨k0,k1,k2⟩,k3,k4⟩,HG,Y0⟩);go_upto_region 3 with(go_at_call 28;refine(uo.out _).mono ?_;rintro e w' ⟨rfl,hw⟩;have hw':=hw.symm;subst hw';clear hw);go_upto_region 4 with(go_at_call 28;refine(F6.out _).mono ?_;rintro e w' ⟨rfl,hw⟩;have hw':=hw.symm;subst hw';clear hw);have hc:kk=0\/kk=1\/kk=2\/kk=3\/kk=4\/kk=5\/kk=6\/kk=7:=by omega
 rcases hc with rfl|rfl|rfl|rfl|rfl|rfl|rfl|rfl
 .go_wp2_with (first
   |(go_at_call 28;refine(Zd.out _).mono ?_;rintro e w' ⟨rfl,hw⟩;have hw':=hw.symm;subst hw';clear hw)
   |(go_at_call 36;refine(qI.out _ _ (HG.out.trans (by simp))).mono ?_;rintro e w3 ⟨x,rfl,HW⟩))
  go_ret;exact⟨0,rfl,HW.out⟩
 .go_wp2_with (first
   |(go_at_call 38;refine(Rz.out _ (HG.out.trans (by simp))).mono ?_;rintro e w3 ⟨rfl,HW⟩))
  go_ret;exact⟨1,rfl,HW.out⟩
 .go_wp2_with (first
   |(go_at_call 38;refine(Rz.out _ (HG.out.trans (by simp))).mono ?_;rintro e w3 ⟨rfl,HW⟩))
  go_ret;exact⟨1,rfl,HW.out⟩
 .by_cases hz:0<r.aT.length
  .have dz:decide ((0:Int)<(r.aT.length:Int))=true:=decide_eq_true (by omega);have Na:Hid (∀y,Calls prog 28 #[Im B,Im (r.aT.length:Int)] y fun e w'=>e=.returned (Im (mP B (r.aT.length:Int)))/\w'=y):=Zc.out hz;generalize mP B (r.aT.length:Int)=z2 at *;go_upto_region 12 with fail;refine fC 10 (by kernel_rfl) (by kernel_rfl) ?_;simp only[List.take_succ_cons,List.take_zero,List.drop_succ_cons,List.drop_zero];repeat (go_big_quiet_step ((go_at_call 28;exact Calls.quiet_of_same (Na.out _))))
   refine wpQuiet_nil ?_;intro _ hw';obtain⟨k3,hw''⟩:=hw';subst hw'';go_wp2_with (go_at_call 39;refine(Y7.out _ _ _ (HG.out.trans (by simp))).mono ?_;rintro e w3 ⟨x,rfl,HW⟩);go_ret;exact⟨0,rfl,HW.out⟩
  .have dz:decide ((0:Int)<(r.aT.length:Int))=false:=decide_eq_false (by omega);go_wp2_with fail;go_ret;exact⟨0,rfl,HWs.out _ (HG.out.trans (by simp))⟩
 .by_cases hz:0<r.aX.length
  .have dz:decide ((0:Int)<(r.aX.length:Int))=true:=decide_eq_true (by omega);have Na:Hid (∀y,Calls prog 28 #[Im B,Im (r.aX.length:Int)] y fun e w'=>e=.returned (Im (mP B (r.aX.length:Int)))/\w'=y):=Zb.out hz;generalize mP B (r.aX.length:Int)=z2 at *;go_upto_region 15 with fail;refine fC 10 (by kernel_rfl) (by kernel_rfl) ?_;simp only[List.take_succ_cons,List.take_zero,List.drop_succ_cons,List.drop_zero];repeat (go_big_quiet_step ((go_at_call 28;exact Calls.quiet_of_same (Na.out _))))
   refine wpQuiet_nil ?_;intro _ hw';obtain⟨k3,hw''⟩:=hw';subst hw'';go_wp2_with (go_at_call 40;refine(oh.out _ _ _ (HG.out.trans (by simp))).mono ?_;rintro e w3 ⟨x,rfl,HW⟩);go_ret;exact⟨0,rfl,HW.out⟩
  .have dz:decide ((0:Int)<(r.aX.length:Int))=false:=decide_eq_false (by omega);go_wp2_with fail;go_ret;exact⟨0,rfl,HWs.out _ (HG.out.trans (by simp))⟩
 .go_wp2_with (first
   |(go_at_call 65;refine(Y8.out _ _ (HG.out.trans (by simp))).mono ?_;rintro e w3 ⟨x,rfl,HW⟩))
  go_ret;exact⟨0,rfl,HW.out⟩
 .obtain⟨W3,hW3⟩:∃W3,w2.alloc (.cells #[Im (s.acc:Int),Im (s.bQ:Int),Im (s.dA:Int),Im (s.dN:Int),.slice a1 s.ah.length c1,.slice a2 s.aG.length c2,.slice a3 s.aJ.length c3,.slice a4 s.aP.length c4,.slice (some (Ad g5 0)) s.ah.length c5,.slice (some (Ad g6 0)) s.ah.length c6,Im s.r0,Im s.r1,Im s.r2,Im s.r3,Im s.r4,Im s.r5,Im s.r6,Im s.r7] 93)=W3:=⟨_,rfl⟩;have hg3:w.grownBy W3 none:=by rw[<-hW3];exact HG.out.trans (World.grownBy_alloc w2 _ none)
  have hb3:W3.heap[w2.heap.size]? =some (.cells #[Im (s.acc:Int),Im (s.bQ:Int),Im (s.dA:Int),Im (s.dN:Int),.slice a1 s.ah.length c1,.slice a2 s.aG.length c2,.slice a3 s.aJ.length c3,.slice a4 s.aP.length c4,.slice (some (Ad g5 0)) s.ah.length c5,.slice (some (Ad g6 0)) s.ah.length c6,Im s.r0,Im s.r1,Im s.r2,Im s.r3,Im s.r4,Im s.r5,Im s.r6,Im s.r7] 93):=by rw[<-hW3];exact heap_alloc_new w2 _
  have UZ:w2.grownBy W3 none:=by rw[<-hW3];exact World.grownBy_alloc w2 _ none
  have hl3:w2.heap.size<W3.heap.size:=dS hb3;have cz:W3.cell? (Ad g5 ri)=some (Im (r.aT.length:Int)):=UZ.cell q5 (by simp);have HW3:=bC (And.intro hg3 (And.intro hb3 cz));have hsz5:=Y0.out;have acM:w.heap.size<=w2.heap.size:=by omega
  have OE:g5<W3.heap.size:=by omega
  clear hg3 hb3 UZ;go_wp2_with fail;go_loopg [7] (r.aT.length+1) (fun gg i wr=>Hid (∃k:Nat,k+gg=r.aT.length+1/\k<=r.aT.length/\i=Im k/\Stepped W3 tag L bs (s.yA (ri:Int) k) wr))
  case atStart=>exact⟨0,by omega,Nat.zero_le _,rfl,Stepped.refl (xZ.out _ HW3.out.1)⟩
  case round=>
   obtain⟨k,hk1,hk2,rfl,hS⟩:=hrel.out;clear hrel;have m1:=(Rn.out _ _ _ w2.heap.size HW3.out.1 hS acM hl3).trans HW3.out.2.1;have m8:wr.cell? (Ad w2.heap.size 8)=some (.slice (some (Ad g5 0)) s.ah.length c5):=aA m1;have m5:wr.cell? (Ad g5 ri)=some (Im (r.aT.length:Int)):=(World.cell?_of_block (Rn.out _ _ _ g5 HW3.out.1 hS (by omega) OE)).trans HW3.out.2.2;clear m1;by_cases hlt:k<r.aT.length
   .have d1:decide ((k:Int)<(r.aT.length:Int))=true:=decide_eq_true (by omega);obtain⟨g',hg'⟩:∃g',gk=g'+1:=⟨gk-1,by omega⟩;have HO:=bC (Ji.out _ _ k HW3.out.1 hlt hS);clear hS;go_wp2_with (go_at_call 39;refine HO.out.mono ?_;rintro e w5 ⟨x,rfl,HN⟩);go_roundg g'
    case measure=>omega
    case rel=>exact⟨k+1,by omega,by omega,by go_num,HN.out⟩
   .have d1:decide ((k:Int)<(r.aT.length:Int))=false:=decide_eq_false (by omega);have hke:k=r.aT.length:=by omega
    subst hke;have HF:=bC (HFin.out _ _ HW3.out.1 hS);clear hS;go_wp2_with fail;go_ret;exact⟨0,rfl,HF.out⟩
 .by_cases hz:0<r.aX.length
  .have dz:decide ((0:Int)<(r.aX.length:Int))=true:=decide_eq_true (by omega);go_wp2_with (go_at_call 40;refine(oh.out _ _ _ (HG.out.trans (by simp))).mono ?_;rintro e w3 ⟨x,rfl,HW⟩);go_ret;exact⟨0,rfl,HW.out⟩
  .have dz:decide ((0:Int)<(r.aX.length:Int))=false:=decide_eq_false (by omega);go_wp2_with fail;go_ret;exact⟨0,rfl,HWs.out _ (HG.out.trans (by simp))⟩
theorem fZ.seen(h:fZ w tag L bs s)(hs:Small s)(hg:w.grownBy y none):Calls prog 37 #[Pt L 0] y fun e w'=>∃a1 c1 a2 c2 a3 c3 a4 c4 a5 c5 a6 c6,e=.returned (.agg #[Im (s.acc:Int),Im (s.bQ:Int),Im (s.dA:Int),Im (s.dN:Int),.slice a1 s.ah.length c1,.slice a2 s.aG.length c2,.slice a3 s.aJ.length c3,.slice a4 s.aP.length c4,.slice a5 s.ah.length c5,.slice a6 s.ah.length c6,Im s.r0,Im s.r1,Im s.r2,Im s.r3,Im s.r4,Im s.r5,Im s.r6,Im s.r7])/\Hid (Ju s y (.slice a1 s.ah.length c1) (.slice a2 s.aG.length c2) (.slice a3 s.aJ.length c3) (.slice a4 s.aP.length c4) (.slice a5 s.ah.length c5) (.slice a6 s.ah.length c6) w')/\Hid (w.grownBy w' none):=by
 obtain⟨R,pk,cap,ρ,C,h1,h2⟩:=h.grow hg;refine(X4 h1 hs).mono ?_;rintro e w' ⟨a1,c1,a2,c2,a3,c3,a4,c4,a5,c5,a6,c6,e1,e2⟩;exact⟨a1,c1,a2,c2,a3,c3,a4,c4,a5,c5,a6,c6,e1,e2,hg.trans e2.grown⟩
theorem aaB(w2:World)(vs zs:List Value)(T:TypeId)(hl:zs.length=vs.length):∃W,(w2.alloc (.cells zs.toArray T)).setCells w2.heap.size 0 vs=W/\W.heap[w2.heap.size]? =some (.cells vs.toArray T)/\w2.grownBy W none:=
 ⟨_,rfl,Qs hl (heap_alloc_new w2 _),(World.grownBy_alloc w2 _ none).andThen (L9 _ _ _ _) fun j hj=>Or.inl (by cases hj;exact Nat.le_refl _)⟩
end
section
variable {w w' w2 w1:World}{tag tag':Nat->Nat}{L n:Nat}{s s':aO}{bs:List UInt8}
theorem ab1:qA ⟨#[]⟩ ⟨#[]⟩=true:=by decide+kernel
structure Gg where
 kind:Int
 a:Int
 b:Int
def Gi(B:Nat)(w:World)(ad:Option Addr)(l:List Gg):Prop:=∀i (o:Gg),l[i]? =some o->∃b f,ad=some (Ad b f)/\b<B/\w.cell? (Ad b (f+i * 3))=some (Im o.kind)/\w.cell? (Ad b (f+i * 3+1))=some (Im o.a)/\w.cell? (Ad b (f+i * 3+2))=some (Im o.b)
def vM(k:Nat):Nat:=8+8 * k
def Cj(k:Nat):Nat:=k * (vM k+1)
theorem aaj(k:Nat):vM k+8=vM (k+1)/\Cj k+vM k+1<=Cj (k+1):=by
 unfold Cj vM;constructor
 .omega
 .rw[Nat.mul_comm k,Nat.mul_comm (k+1),Nat.mul_succ];have:(8+8 * k+1) * k<=(8+8 * (k+1)+1) * k:=Nat.mul_le_mul_right k (by omega);omega
theorem Gi.later{B:Nat}{ad:Option Addr}{l:List Gg}(h:Gi B w ad l)(hb:Below B w w'):Gi B w' ad l:=fun i o hi=>by
 obtain⟨b,f,e1,e2,c0,c1,c2⟩:=h i o hi;exact⟨b,f,e1,e2,(hb.cell (p:=(Ad b _)) e2).trans c0,(hb.cell (p:=(Ad b _)) e2).trans c1,(hb.cell (p:=(Ad b _)) e2).trans c2⟩
theorem vC.parts(h:vC w1 L bs n w2)(hb:Below w.heap.size w w1):∃tag,fZ w2 tag L bs (uN n)/\Below w.heap.size w w2/\∀b,b<w.heap.size->tag b=0:=by
 obtain⟨tag,R,pk,cap,ρ,C,h1,h2,h3,h4⟩:=h;have hs:=hb.size;exact⟨tag,⟨R,pk,cap,ρ,C,h1,h2⟩,hb.trans ((Below.Bj h4).mono hs),fun b hb2=>h3 b (by omega)⟩
end
end
section
open Go.ChangeShapes Go.WideShapes Go.ChangeAt Go.RowKit Go.Deep
open Go.ChangeMaps (open_string shut_string)
theorem XB:prog.globalNamed "math/bits.deBruijn64tab"=some 1:=by kernel_rfl
theorem ahn:(prog.globals[1]?).map (·.type)=some 306:=by kernel_rfl
theorem aaI{H:Type}(d:DataW H):1<=Rows.uptoBulk d:=by
 cases d with
 |lit l=>cases l<;>simp[Rows.uptoBulk]
 |_=>simp[Rows.uptoBulk]
theorem Tm{H:Type}:∀l:List (DataW H),l.length<=Rows.uptoBulkAll l
 |[]=>Nat.zero_le _
 |d::l=>by
  have h1:=aaI d;have h2:=Tm l;simp only[Rows.uptoBulkAll,List.length_cons];omega
theorem ah2{H:Type}{enc:TypeId×Value->H}{P:Program}{w:World}{base:Nat}{spare:Nat->Bool}{held:Bool}{t e:TypeId}{fuel:Nat}{ad:Option Addr}{len cap:Nat}{x:DataW H×List MemPlace}(ht:P.underlying t=some (.slice e))(h:DataW.trod enc P w base spare held fuel t [.slice ad len cap]=some x):len<=Rows.uptoBulk x.1:=by
 rcases open_slice ht h with⟨h0,_⟩|⟨a,len',cap',m,n,D,Pl,e1,_,_,_,_,rfl,_⟩
 .simp only[List.cons.injEq,Value.slice.injEq,and_true]at h0;omega
 .simp only[List.cons.injEq,Value.slice.injEq,and_true]at e1;obtain⟨_,rfl,_⟩:=e1;have h2:=Tm ((List.range len).map D);simp only[List.length_map,List.length_range]at h2;simp only[Rows.uptoBulk];omega
theorem ahB{w:World}{ad:Option Addr}{rs:List Hx.Pk}(h:BX w.heap.size w ad rs):Gi w.heap.size w ad (rs.map fun p=>⟨p.seq,p.size,p.on⟩):=fun i o hi=>by
 rw[List.getElem?_map]at hi;cases hr:rs[i]?with
 |none=>rw[hr]at hi;cases hi
 |some r=>
  rw[hr]at hi;cases hi;obtain⟨b,f,e1,e2,b',f',e3,c0,c1,c2⟩:=h i r hr;cases e3;exact⟨b,f,e1,e2,c0,c1,c2⟩
end
section
open Go.RowKit Hx
section
variable {s s':aO}{bs:List UInt8}{g a wd c t:Nat}
def o9(a b:Nat->Nat)(n:Nat):List (Nat×Nat):=(List.range n).flatMap fun i=>(List.range' (a i) (b i-a i)).map fun k=>(i,k)
theorem agj{a b:Nat->Nat}{n i k:Nat}:(i,k)∈o9 a b n↔i<n/\a i<=k/\k<b i:=by
 unfold o9;simp only[List.mem_flatMap,List.mem_range,List.mem_map,List.mem_range'_1,Prod.mk.injEq];constructor
 .rintro⟨j,hj,k',hk,rfl,rfl⟩;exact⟨hj,by omega,by omega⟩
 .rintro⟨h1,h2,h3⟩;exact⟨i,h1,k,by omega,rfl,rfl⟩
theorem agB(a b:Nat->Nat)(n:Nat):o9 a b (n+1)=o9 a b n++(List.range' (a n) (b n-a n)).map fun k=>(n,k):=by
 unfold o9;rw[List.range_succ,List.flatMap_append];simp
def o7(s:aO)(i:Nat):Nat:=(s.ah.getD i lT).aT.length
def o8(s:aO)(i:Nat):Nat:=(s.ah.getD i lT).aX.length
theorem acR{i:Nat}{r:Lr}(h:s.ah[i]? =some r):o7 s i=r.aT.length:=by unfold o7;rw[List.getD_eq_getElem?_getD,h];rfl
theorem acO{i:Nat}{r:Lr}(h:s.ah[i]? =some r):o8 s i=r.aX.length:=by unfold o8;rw[List.getD_eq_getElem?_getD,h];rfl
def Hx.aO.acN(s:aO)(bs:List UInt8):aO:=(s.tick bs).ZX (o9 (o7 s) (o7 (s.tick bs)) s.ah.length)
def Hx.aO.round(s:aO)(bs:List UInt8):aO:=(s.acN bs).abC (o9 (o8 (s.tick bs)) (o8 (s.acN bs)) s.ah.length)
theorem ajK(s:aO)(bs:List UInt8):vH s (s.kW bs):=by
 unfold Hx.aO.kW;split
 .exact(ak1 s _ _ _ _ _ _ _ _).trans (ahF _ _)
 .exact vH.refl s
theorem aj2(s:aO):s.watch.ah.length=s.ah.length:=by
 have hd:s.fA.1.ah.length=s.ah.length:=by unfold Hx.aO.fA;split<;>rfl
 unfold Hx.aO.watch;split
 .unfold aO.mD;split
  .exact hd
  .exact List.length_set.trans hd
 .exact hd
theorem ajI(h:lF s g a wd c)(hk:zC s)(hs:Small s)(ht:takes bs=true):Sn (s.round bs)/\(s.round bs).acc=s.acc/\s.dA<=(s.round bs).dA/\(s.dA<s.acc->abD (s.round bs)+1<=abD s):=by
 have h0:=(h.kW hk hs ht).1.sn;have hse:=ajK s bs;have hlen:(s.kW bs).watch.ah.length=s.ah.length:=(aj2 _).trans hse.len;obtain⟨a1,a2⟩:=abO (o9 (o7 s) (o7 (s.tick bs)) s.ah.length) (s.tick bs) (akl h0);obtain⟨b1,b2⟩:=abE (o9 (o8 (s.tick bs)) (o8 (s.acN bs)) s.ah.length) (s.acN bs) a1;have hacc:(s.round bs).acc=s.acc:=b2.acc.trans (a2.acc.trans (Zp s bs));have hmono:s.dA<=(s.round bs).dA:=by
  have e1:(s.tick bs).dA=s.dA:=by
   show(s.kW bs).watch.dA=s.dA;rw[<-hse.dA];unfold Hx.aO.watch;have hd:(s.kW bs).fA.1.dA=(s.kW bs).dA:=by unfold Hx.aO.fA;split<;>rfl
   split
   .unfold aO.mD;split
    .exact hd
    .exact hd
   .exact hd
  have e2:(s.acN bs).dA=(s.tick bs).dA:=a2.dA;have:=b2.dA;rw[e2,e1]at this;exact this
 refine⟨b1,hacc,hmono,fun hlt=>?_⟩;have key:=akZ hlt h0 hse (o9 (o7 s) (o7 (s.tick bs)) s.ah.length) (o9 (o8 (s.tick bs)) (o8 (s.acN bs)) s.ah.length)
  (fun i k r r' hr hr' h1 h2=>agj.2 ⟨(List.getElem?_eq_some_iff.1 hr).1,by rw[acR hr];exact h1,by rw[acR (s:=s.tick bs) hr'];exact h2⟩)
  (fun i k r r' hr hr' h1 h2=>agj.2 ⟨by have:=(List.getElem?_eq_some_iff.1 hr).1;omega,by rw[acO (s:=s.tick bs) hr];exact h1,by rw[acO (s:=s.acN bs) hr'];exact h2⟩)
 exact ak2 h.sn hlt b1 hacc key.2.2
def acH(r r':Lr)(x:Nat):Prop:=r'.aT.length+(8-r'.out)<=r.aT.length+(8-r.out)+x
theorem ajJ{q i j:Nat}{r r0:Lr}(hi:s.ah[i]? =some r)(h0:s.ah[j]? =some r0)(x:Nat)(hx:r.out<8\/1<=x):∃r1,(s.send q i).ah[j]? =some r1/\acH r0 r1 x:=by
 by_cases hj:j=i
 .subst hj;rw[hi]at h0;cases h0;refine⟨_,ahG hi,?_⟩;show(r.aT++[q]).length+(8-(r.out+1))<=r.aT.length+(8-r.out)+x;rw[List.length_append,List.length_singleton];omega
 .refine⟨r0,?_,by unfold acH;omega⟩;show(s.ah.set i _)[j]? =_;rw[List.getElem?_set_ne (fun e=>hj e.symm)];exact h0
theorem akq(h:Sn s)(id seq:Int){j:Nat}{r0:Lr}(h0:s.ah[j]? =some r0):∃r1,(s.act id seq).ah[j]? =some r1/\acH r0 r1 0:=by
 unfold aO.act;split
 .split
  .rename_i r hr;split
   .exact⟨r0,h0,by unfold acH;omega⟩
   .rename_i hc;have:=(h.aK _ r hr).c8;exact ajJ hr h0 0 (Or.inl (by omega))
  .exact⟨r0,h0,by unfold acH;omega⟩
 .exact⟨r0,h0,by unfold acH;omega⟩
theorem aja:∀(l:List (Int×Int)){s:aO},Sn s->∀{j:Nat}{r0:Lr},s.ah[j]? =some r0->∃r1,(s.aY l).ah[j]? =some r1/\acH r0 r1 0
 |[],_,_,_,r0,h0=>⟨r0,h0,by unfold acH;omega⟩
 |x::l,s,h,j,r0,h0=>by
  obtain⟨r1,e1,e2⟩:=akq h x.1 x.2 h0;obtain⟨r2,e3,e4⟩:=aja l (h.act x.1 x.2).1 e1;rw[Ny];exact⟨r2,e3,by unfold acH at *;omega⟩
theorem alA(h:Sn s){j:Nat}{r0:Lr}(h0:s.ah[j]? =some r0):∃r1,s.watch.ah[j]? =some r1/\acH r0 r1 1:=by
 obtain⟨d1,d2,_⟩:=h.fA;have hd:s.fA.1.ah[j]? =some r0:=by rw[d2];exact h0
 unfold Hx.aO.watch;split
 .unfold aO.mD;split
  .exact⟨r0,hd,by unfold acH;omega⟩
  .rename_i q hq;obtain⟨rt,hi⟩:∃rt,s.fA.1.ah[s.fA.1.turn]? =some rt:=⟨_,List.getElem?_eq_getElem d1.turn⟩;exact ajJ hi hd 1 (Or.inr (Nat.le_refl _))
 .exact⟨r0,hd,by unfold acH;omega⟩
theorem agC(h:lF s g a wd c)(hk:zC s)(hs:Small s)(ht:takes bs=true)(j:Nat)(hj:j<s.ah.length):o7 (s.tick bs) j<=o7 s j+9:=by
 have h0:s.ah[j]? =some s.ah[j]:=List.getElem?_eq_getElem hj;have hst:∃r1,(s.kW bs).ah[j]? =some r1/\acH s.ah[j] r1 0:=by
  unfold Hx.aO.kW;split
  .exact aja (s.out bs).aY (s:=s.told (s.out bs)) (h.sn.bG _ _ _ _ _ _ _ _) h0
  .exact⟨_,h0,by unfold acH;omega⟩
 obtain⟨r1,e1,e2⟩:=hst;obtain⟨r2,e3,e4⟩:=alA (h.kW hk hs ht).1.sn e1;have e3':(s.tick bs).ah[j]? =some r2:=e3;rw[acR h0,acR e3'];unfold acH at e2 e4;omega
theorem ae0:∀(l:List (Nat×Nat)){s:aO}{a:Nat},lF s g a wd c->lF (s.ZX l) g (a+l.length) wd c
 |[],_,_,h=>h
 |x::l,s,a,h=>by
  have h1:lF (s.lu (x.1:Int) (x.2:Int)).1 g (a+1) wd c:=⟨(h.sn.lu _ _).1,h.bd.lu _ _,h.ir.lu _ _⟩;have h2:=ae0 l h1;rw[acy,List.length_cons,show a+(l.length+1)=a+1+l.length by omega];exact h2
theorem afH:∀(l:List (Nat×Nat)){s:aO}{g:Nat},lF s g a wd c->lF (s.abC l) (g+8 * l.length) a wd c
 |[],_,_,h=>h
 |x::l,s,g,h=>by
  have h1:lF (s.lZ (x.1:Int) (x.2:Int)).1 (g+8) a wd c:=⟨(h.sn.lZ _ _).1,h.bd.lZ _ _,h.ir.lZ _ _⟩;have h2:=afH l h1;rw[abR,List.length_cons,show g+8 * (l.length+1)=g+8+8 * l.length by omega];exact h2
theorem aek(f b:Nat->Nat)(m:Nat):∀n,(∀i,i<n->b i<=f i+m)->(o9 f b n).length<=n * m
 |0,_=>Nat.zero_le _
 |n+1,h=>by
  have h1:=aek f b m n (fun i hi=>h i (by omega));have h2:=h n (by omega);rw[agB,List.length_append,List.length_map,List.length_range',Nat.succ_mul];omega
theorem akm(s:aO)(i k j:Nat):o8 (s.lu (i:Int) (k:Int)).1 j<=o8 s j+(if j=i then 1 else 0):=by
 unfold aO.lu;split
 .exact Nat.le_add_right _ _
 .rename_i i' hi';have hii:i'=i:=by
   unfold sH at hi';split at hi'
   .cases hi'
   .cases hi';simp
  subst hii;split
  .exact Nat.le_add_right _ _
  .rename_i r hr;split
   .exact Nat.le_add_right _ _
   .by_cases e:j=i'
    .subst e;rw[if_pos rfl,acO hr,acO (r:={r with aX:=r.aX++[_]}) (List.getElem?_set_self (List.getElem?_eq_some_iff.1 hr).1)];simp
    .rw[if_neg e];unfold o8;show((s.ah.set i' _).getD j lT).aX.length<=_;rw[List.getD_eq_getElem?_getD,List.getElem?_set_ne (fun x=>e x.symm),<-List.getD_eq_getElem?_getD];omega
theorem afQ:∀(l:List (Nat×Nat))(s:aO)(j:Nat),o8 (s.ZX l) j<=o8 s j+(l.filter fun x=>x.1==j).length
 |[],s,j=>Nat.le_add_right _ _
 |x::l,s,j=>by
  have h1:=afQ l (s.lu (x.1:Int) (x.2:Int)).1 j;have h2:=akm s x.1 x.2 j;rw[acy,List.filter_cons];by_cases e:j=x.1
  .rw[if_pos e]at h2;rw[if_pos (by simp[e]),List.length_cons];omega
  .rw[if_neg e]at h2;rw[if_neg (by simpa using fun x=>e x.symm)];omega
theorem agk(f b:Nat->Nat)(j:Nat):∀n,((o9 f b n).filter fun x=>x.1==j).length<=b j-f j
 |0=>Nat.zero_le _
 |n+1=>by
  have ih:=agk f b j n;rw[agB,List.filter_append,List.length_append];by_cases e:n=j
  .subst e;have h0:(o9 f b n).filter (fun x=>x.1==n)=[]:=List.filter_eq_nil_iff.2 fun x hx=>by
    obtain⟨x1,x2⟩:=x;have:=(agj.1 hx).1;simp;omega
   have h1:=List.length_filter_le (fun x:Nat×Nat=>x.1==n) ((List.range' (f n) (b n-f n)).map fun k=>(n,k));rw[List.length_map,List.length_range']at h1;rw[h0,List.length_nil];omega
  .have h1:((List.range' (f n) (b n-f n)).map fun k=>(n,k)).filter (fun x:Nat×Nat=>x.1==j)=[]:=List.filter_eq_nil_iff.2 fun x hx=>by
    obtain⟨k,_,rfl⟩:=List.mem_map.1 hx;simpa using e
   rw[h1,List.length_nil];omega
theorem alo(h:lF s g a wd c)(hk:zC s)(hs:Small s)(ht:takes bs=true):lF (s.round bs) (g+289) (a+36) (wd+256) c:=by
 have h4:=hk.ah;have t0:=(h.tick hk hs ht (p:=over s.ah) (t:=8 * over s.ah+s.quiet.toNat) (Nat.le_refl _) (Nat.le_refl _)).1;have n1:(o9 (o7 s) (o7 (s.tick bs)) s.ah.length).length<=s.ah.length * 9:=aek _ _ 9 _ fun i hi=>agC h hk hs ht i hi;have t1:lF (s.acN bs) (g+1) (a+(o9 (o7 s) (o7 (s.tick bs)) s.ah.length).length) (wd+256) c:=ae0 _ t0;have n2:(o9 (o8 (s.tick bs)) (o8 (s.acN bs)) s.ah.length).length<=s.ah.length * 9:=aek _ _ 9 _ fun i hi=>by
  have k1:=afQ (o9 (o7 s) (o7 (s.tick bs)) s.ah.length) (s.tick bs) i;have k2:=agk (o7 s) (o7 (s.tick bs)) i s.ah.length;have k3:=agC h hk hs ht i hi;show o8 ((s.tick bs).ZX _) i<=_;omega
 exact(afH _ t1).mono (by omega) (by omega) (Nat.le_refl _) (Nat.le_refl _)
def acT(s:aO)(m T:Nat):Prop:=abD s+m<=T\/s.dA=s.acc
theorem acT.round{m T:Nat}(hn:acT s m T)(h:lF s g a wd c)(hk:zC s)(hs:Small s)(ht:takes bs=true):acT (s.round bs) (m+1) T:=by
 obtain⟨r1,r2,r3,r4⟩:=ajI h hk hs ht;have k1:=r1.ak;have k2:=r1.dl;have k3:=h.sn.ak;have k4:=h.sn.dl;by_cases hlt:s.dA<s.acc
 .rcases hn with e|e
  .left;have:=r4 hlt;omega
  .omega
 .right;omega
theorem acT.done{m T:Nat}(hn:acT s m T)(h:Sn s)(hm:T<=m):s.dA=s.acc/\s.bQ=s.acc/\s.aG=[]/\s.aP=[]:=by
 have hz:s.dA=s.acc:=by
  rcases hn with e|e
  .exact(h.akp (by omega)).1
  .exact e
 refine h.akp ?_;unfold abD;omega
end
section
variable {w w' w2 w1:World}{tag tag':Nat->Nat}{L n:Nat}{s s':aO}{bs:List UInt8}{g a wd c:Nat}
def upTo(f b:Nat->Nat)(r k:Nat):List (Nat×Nat):=o9 f b r++(List.range' (f r) (k-f r)).map fun k=>(r,k)
theorem ajR(f b:Nat->Nat)(r:Nat):upTo f b r (f r)=o9 f b r:=by unfold upTo;simp
theorem alv(f b:Nat->Nat)(r:Nat):upTo f b r (b r)=o9 f b (r+1):=by rw[agB];rfl
theorem ajP(f b:Nat->Nat)(r k:Nat)(h:f r<=k):upTo f b r (k+1)=upTo f b r k++[(r,k)]:=by
 unfold upTo;rw[show k+1-f r=(k-f r)+1 by omega,List.range'_1_concat,List.map_append,List.append_assoc];rw[show f r+(k-f r)=k by omega]
 rfl
theorem ajN(f b:Nat->Nat)(m r k:Nat)(h:∀i,i<r->b i<=f i+m)(h1:k<=f r+m):(upTo f b r k).length<=r * m+m:=by
 unfold upTo;have:=aek f b m r h;rw[List.length_append,List.length_map,List.length_range'];omega
theorem aks(s:aO)(l:List (Nat×Nat))(r k:Nat):s.ZX (l++[(r,k)])=((s.ZX l).lu (r:Int) (k:Int)).1:=by
 unfold Hx.aO.ZX;rw[List.foldl_append];rfl
theorem aki(s:aO)(l:List (Nat×Nat))(r k:Nat):s.abC (l++[(r,k)])=((s.abC l).lZ (r:Int) (k:Int)).1:=by
 unfold Hx.aO.abC;rw[List.foldl_append];rfl
theorem akr{r k:Nat}(hr:r<s.ah.length)(hk:k<o7 s r):(s.lu (r:Int) (k:Int)).2=0:=by
 have h0:s.ah[r]? =some s.ah[r]:=List.getElem?_eq_getElem hr;rw[acR h0]at hk;unfold aO.lu;simp only[abQ hr,h0];rw[if_neg (by omega)]
theorem ako{r k:Nat}(hr:r<s.ah.length)(hk:k<o8 s r):(s.lZ (r:Int) (k:Int)).2=0:=by
 have h0:s.ah[r]? =some s.ah[r]:=List.getElem?_eq_getElem hr;rw[acO h0]at hk;unfold aO.lZ;simp only[abQ hr,h0];rw[if_neg (by omega)];split<;>rfl
theorem akt(h:Sn s)(l:List (Nat×Nat))(r:Nat)(hr:r<s.ah.length):o7 (s.ZX l) r=o7 s r/\(s.ZX l).ah.length=s.ah.length:=by
 have h0:s.ah[r]? =some s.ah[r]:=List.getElem?_eq_getElem hr;obtain⟨_,a⟩:=abO l s h;obtain⟨r',e1,e2,_⟩:=a.aK r _ h0;exact⟨by rw[acR h0,acR e1,e2],a.len⟩
theorem akh(h:Sn s)(l:List (Nat×Nat))(r:Nat)(hr:r<s.ah.length):o8 (s.abC l) r=o8 s r/\(s.abC l).ah.length=s.ah.length:=by
 have h0:s.ah[r]? =some s.ah[r]:=List.getElem?_eq_getElem hr;obtain⟨_,a⟩:=abE l s h;obtain⟨r',e1,_,e2⟩:=a.aK r _ h0;exact⟨by rw[acO h0,acO e1,e2],a.len⟩
theorem alr(s:aO)(bs:List UInt8):(s.tick bs).ah.length=s.ah.length:=(aj2 _).trans (ajK s bs).len
theorem Stepped.lu{w0 wr:World}{aiF:Nat->Nat}{f:Nat->Nat}{r k:Nat}(h:Stepped w0 aiF L bs (s.ZX (upTo f (o7 s) r k)) wr)(ho:lF s g a wd c)(hf:xX g (a+36) wd c)(hn:s.ah.length<=4)(hr:r<s.ah.length)(h9:∀i,i<s.ah.length->o7 s i<=f i+9)(hk:f r<=k)(hlt:k<o7 s r):
 Calls prog 39 #[Pt L 0,Im (r:Int),Im (k:Int)] wr fun e w'=>e=.returned (Im 0)/\Stepped w0 aiF L bs (s.ZX (upTo f (o7 s) r (k+1))) w':=by
 have hl:(upTo f (o7 s) r k).length<=r * 9+9:=ajN _ _ 9 r k (fun i hi=>h9 i (by omega)) (by have:=h9 r hr;omega);have ho2:=ae0 (upTo f (o7 s) r k) ho;have hs2:=ho2.small ⟨hf.g,by have:=hf.a;omega,hf.wd,hf.c⟩;obtain⟨e1,e2⟩:=akt ho.sn (upTo f (o7 s) r k) r hr;obtain⟨t1,hl1,f1⟩:=h;refine(hl1.lu hs2 ho2.sn (r:Int) (k:Int)).mono ?_;rintro e w' ⟨rfl,t2,hl2,f2⟩;rw[akr (by rw[e2];exact hr) (by rw[e1];exact hlt)];refine⟨rfl,t2,?_,f1.trans f2⟩;rw[ajP _ _ _ _ hk,aks];exact hl2
theorem Stepped.lZ{w0 wr:World}{aiF:Nat->Nat}{f:Nat->Nat}{r k:Nat}(h:Stepped w0 aiF L bs (s.abC (upTo f (o8 s) r k)) wr)(ho:lF s g a wd c)(hf:xX (g+288) a wd c)(hn:s.ah.length<=4)(hr:r<s.ah.length)(h9:∀i,i<s.ah.length->o8 s i<=f i+9)(hk:f r<=k)(hlt:k<o8 s r):
 Calls prog 40 #[Pt L 0,Im (r:Int),Im (k:Int)] wr fun e w'=>e=.returned (Im 0)/\Stepped w0 aiF L bs (s.abC (upTo f (o8 s) r (k+1))) w':=by
 have hl:(upTo f (o8 s) r k).length<=r * 9+9:=ajN _ _ 9 r k (fun i hi=>h9 i (by omega)) (by have:=h9 r hr;omega);have ho2:=afH (upTo f (o8 s) r k) ho;have hs2:=ho2.small ⟨by have:=hf.g;omega,hf.a,hf.wd,hf.c⟩;obtain⟨e1,e2⟩:=akh ho.sn (upTo f (o8 s) r k) r hr;obtain⟨t1,hl1,f1⟩:=h;refine(hl1.lZ hs2 (r:Int) (k:Int)).mono ?_;rintro e w' ⟨rfl,t2,hl2,f2⟩;rw[ako (by rw[e2];exact hr) (by rw[e1];exact hlt)];refine⟨rfl,t2,?_,f1.trans f2⟩;rw[ajP _ _ _ _ hk,aki];exact hl2
def Told(w:World)(tag:Nat->Nat)(B:Nat)(s:aO):Prop:=∃a1 c1 a2 c2 a4 c4 g5 c5 g6 c6,
 (B<w.heap.size/\tag B=0)/\(w.cell? (Ad B 0)=some (Im (s.acc:Int))/\w.cell? (Ad B 1)=some (Im (s.bQ:Int))/\w.cell? (Ad B 2)=some (Im (s.dA:Int))/\w.cell? (Ad B 4)=some (.slice a1 s.ah.length c1)/\w.cell? (Ad B 5)=some (.slice a2 s.aG.length c2)/\w.cell? (Ad B 7)=some (.slice a4 s.aP.length c4)/\w.cell? (Ad B 8)=some (.slice (some (Ad g5 0)) s.ah.length c5)/\w.cell? (Ad B 9)=some (.slice (some (Ad g6 0)) s.ah.length c6))/\
 (g5<w.heap.size/\tag g5=0/\∀i,i<s.ah.length->w.cell? (Ad g5 i)=some (Im (o7 s i:Int)))/\(g6<w.heap.size/\tag g6=0/\∀i,i<s.ah.length->w.cell? (Ad g6 i)=some (Im (o8 s i:Int)))
theorem Told.aN{B:Nat}(h:Told w tag B s)(f:Lf w tag w' tag'):Told w' tag' B s:=by
 obtain⟨a1,c1,a2,c2,a4,c4,g5,c5,g6,c6,⟨b1,b2⟩,⟨e0,e1,e2,e4,e5,e7,e8,e9⟩,⟨x1,x2,x3⟩,⟨y1,y2,y3⟩⟩:=h;have hs:=f.size;have k:∀b j,b<w.heap.size->tag b=0->w'.cell? (Ad b j)=w.cell? (Ad b j):=fun b j h1 h2=>World.cell?_of_block (f.aN b h1 h2);exact⟨a1,c1,a2,c2,a4,c4,g5,c5,g6,c6,⟨by omega,(f.tags B b1).trans b2⟩,⟨(k B _ b1 b2).trans e0,(k B _ b1 b2).trans e1,(k B _ b1 b2).trans e2,(k B _ b1 b2).trans e4,(k B _ b1 b2).trans e5,(k B _ b1 b2).trans e7,(k B _ b1 b2).trans e8,(k B _ b1 b2).trans e9⟩,⟨by omega,(f.tags g5 x1).trans x2,fun i hi=>(k g5 _ x1 x2).trans (x3 i hi)⟩,⟨by omega,(f.tags g6 y1).trans y2,fun i hi=>(k g6 _ y1 y2).trans (y3 i hi)⟩⟩
theorem ints_at(l:List Lr)(f:Lr->Nat)(i:Nat)(r:Lr)(h:l[i]? =some r):(ints (l.map f))[i]? =some (Im (f r:Int)):=by
 unfold ints;rw[List.getElem?_map,List.getElem?_map,h]
 rfl
theorem Told.new{y W:World}{a1 a2 a3 a4 a5 a6:Option Addr}{c1 c2 c3 c4 c5 c6:Nat}(h:fZ w tag L bs s)(hg:w.grownBy y none)(hA:Ju s y (.slice a1 s.ah.length c1) (.slice a2 s.aG.length c2) (.slice a3 s.aJ.length c3) (.slice a4 s.aP.length c4) (.slice a5 s.ah.length c5) (.slice a6 s.ah.length c6) w2)
 (hb:W.heap[w2.heap.size]? =some (.cells #[Im (s.acc:Int),Im (s.bQ:Int),Im (s.dA:Int),Im (s.dN:Int),.slice a1 s.ah.length c1,.slice a2 s.aG.length c2,.slice a3 s.aJ.length c3,.slice a4 s.aP.length c4,.slice a5 s.ah.length c5,.slice a6 s.ah.length c6,Im s.r0,Im s.r1,Im s.r2,Im s.r3,Im s.r4,Im s.r5,Im s.r6,Im s.r7] 93))(hW:w2.grownBy W none):Told W tag w2.heap.size s:=by
 have s1:=hg.size;have s2:=hA.grown.size;have hn:0<s.ah.length:=by have:=h.ok.turn;omega
 have h0:s.ah[0]? =some s.ah[0]:=List.getElem?_eq_getElem hn;obtain⟨g5,rfl,x1,x2,x3⟩:=yT hA.aT (ints_at s.ah (fun r=>r.aT.length) 0 _ h0);obtain⟨g6,rfl,y1,y2,y3⟩:=yT hA.aX (ints_at s.ah (fun r=>r.aX.length) 0 _ h0);have s3:=hW.size;refine⟨a1,c1,a2,c2,a4,c4,g5,c5,g6,c6,⟨dS hb,h.new (by omega)⟩,⟨aA hb,aA hb,aA hb,aA hb,aA hb,aA hb,aA hb,aA hb⟩,⟨by omega,h.new (by omega),fun i hi=>?_⟩,⟨by omega,h.new (by omega),fun i hi=>?_⟩⟩
 .have hi0:s.ah[i]? =some s.ah[i]:=List.getElem?_eq_getElem hi;rw[acR hi0];exact hW.cell (x3 _ _ (ints_at s.ah (fun r=>r.aT.length) i _ hi0)) (by simp)
 .have hi0:s.ah[i]? =some s.ah[i]:=List.getElem?_eq_getElem hi;rw[acO hi0];exact hW.cell (y3 _ _ (ints_at s.ah (fun r=>r.aX.length) i _ hi0)) (by simp)
structure acD(w0:World)(aiF:Nat->Nat)(L:Nat)(bs:List UInt8)(k:Nat)(wr:World):Prop where
 ex:∃s,Stepped w0 aiF L bs s wr/\lF s (vM k) (Cj k) (256 * k) k/\(0<k->0<s.acc)
theorem ajk(n:Nat)(hn:1<=n):lF (uN n) 8 0 0 0:=by
 obtain⟨h1,h2,h3⟩:=aeN n hn;refine⟨h1,h3,⟨fun p hp=>absurd hp List.not_mem_nil,fun x hx=>?_⟩⟩;have hx':x∈[(0:Int),0,0,0,0,0,0,0]:=hx;simp only[List.mem_cons,List.not_mem_nil,or_false,or_self]at hx';rw[hx'];exact tq
theorem acD.step{w0 wx:World}{aiF:Nat->Nat}{k t:Nat}{s s':aO}(hx:Nx s s' t (vM k) (Cj k) (256 * k) k)(hs:Stepped w0 aiF L bs s' wx)(hp:0<s'.acc):acD w0 aiF L bs (k+1) wx:=by
 obtain⟨b1,b2⟩:=aaj k;exact⟨s',hs,hx.okl.mono (by omega) (by omega) (by omega) (Nat.le_refl _),fun _=>hp⟩
theorem ae5{k:Nat}(hk:k<=1048600):xX (vM k+3000000000) (Cj k+vM k+1+400000000) (256 * k+3000000000) k:=by
 have h1:vM k<=8388816:=by unfold vM;omega
 have h2:Cj k<=1048600 * 8388817:=Nat.mul_le_mul hk (by omega);exact⟨by omega,by omega,by omega,by omega⟩
theorem xX.less{g' a' wd' c':Nat}(h:xX g a wd c)(h1:g'<=g)(h2:a'<=a)(h3:wd'<=wd)(h4:c'<=c):xX g' a' wd' c':=⟨Nat.le_trans h1 h.g,Nat.le_trans h2 h.a,Nat.le_trans h3 h.wd,Nat.le_trans h4 h.c⟩
theorem alB(hf:s.aG.length=0):0<(s.write 1).1.acc:=by
 unfold aO.write;rw[if_neg (by omega),if_neg (by omega)];exact Nat.succ_pos _
theorem acD.write{w0 wr:World}{aiF:Nat->Nat}{k:Nat}(h:acD w0 aiF L bs k wr)(h0:k=0->∃n,1<=n/\Stepped w0 aiF L bs (uN n) wr)(hk:k<=1048600):Calls prog 36 #[Pt L 0,Im 1] wr fun e w'=>∃v:Int,e=.returned (Im v)/\acD w0 aiF L bs (k+1) w':=by
 have hf:=ae5 hk;by_cases hz:k=0
 .obtain⟨n,hn,t1,hl,f1⟩:=h0 hz;have ho:lF (uN n) (vM k) (Cj k) (256 * k) k:=(ajk n hn).mono (by unfold vM;omega) (Nat.zero_le _) (Nat.zero_le _) (Nat.zero_le _);refine(hl.write (ho.small (hf.less (by omega) (by omega) (by omega) (Nat.le_refl _))) ho.sn 1).mono ?_;rintro e w' ⟨rfl,t2,hl2,f2⟩;exact⟨_,rfl,acD.step (Nx.write ho 1) ⟨t2,hl2,f1.trans f2⟩ (alB rfl)⟩
 .obtain⟨s,⟨t1,hl,f1⟩,ho,hp⟩:=h.ex;refine(hl.write (ho.small (hf.less (by omega) (by omega) (by omega) (Nat.le_refl _))) ho.sn 1).mono ?_;rintro e w' ⟨rfl,t2,hl2,f2⟩;exact⟨_,rfl,acD.step (Nx.write ho 1) ⟨t2,hl2,f1.trans f2⟩ (Nat.lt_of_lt_of_le (hp (by omega)) (Zr s 1))⟩
theorem acD.UA{w0 wr:World}{aiF:Nat->Nat}{k:Nat}(h:acD w0 aiF L bs k wr)(h0:0<k)(hk:k<=1048600){kd A B:Int}(h1:aZ kd)(h2:aZ A)(h3:aZ B):Calls prog 34 #[Pt L 0,.agg #[Im kd,Im A,Im B]] wr fun e w'=>∃v:Int,e=.returned (Im v)/\acD w0 aiF L bs (k+1) w':=by
 have hf:=ae5 hk;obtain⟨s,⟨t1,hl,f1⟩,ho,hp⟩:=h.ex;refine(abV hl ho (hf.less (by omega) (by omega) (by omega) (Nat.le_refl _)) h1 h2 h3).mono ?_;rintro e w' ⟨d,rfl,s',⟨t2,hl2,f2⟩,hx⟩;exact⟨_,rfl,acD.step hx ⟨t2,hl2,f1.trans f2⟩ (Nat.lt_of_lt_of_le (hp h0) hx.acc)⟩
structure acU(w0:World)(aiF:Nat->Nat)(L:Nat)(bs:List UInt8)(k m T:Nat)(wr:World):Prop where
 ex:∃s,Stepped w0 aiF L bs s wr/\lF s (vM k+289 * m) (Cj k+36 * m) (256 * k+256 * m) k/\acT s m T/\0<s.acc
theorem acU.vS{k m:Nat}(hk:k<=1048600)(hm:m<=9 * k+9):xX (vM k+289 * m+289) (Cj k+36 * m+36) (256 * k+256 * m+256) k:=(ae5 hk).less (by omega) (by omega) (by omega) (Nat.le_refl _)
end
end
end Go.Proofs.YthllhabjfchgiaaGreatDoor
