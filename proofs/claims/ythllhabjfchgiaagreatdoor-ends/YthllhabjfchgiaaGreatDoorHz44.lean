import Derived.Test.YthllhabjfchgiaaGreatDoorHz43
set_option maxRecDepth 100000
set_option maxHeartbeats 8000000
namespace Go.Proofs.YthllhabjfchgiaaGreatDoor
open _root_.Go.Proofs.Tryz
section
open Go.RowKit Hx
attribute [local go_sem ↓] Go.wp_at_zero Go.wp_at_succ
attribute [local go_sem] bT
section
variable {w w' w2 w1:World}{tag tag':Nat->Nat}{L R cap C:Nat}{pk:Nat->Nat}{cv u v:Value}{ρ:bW}{s:aO}{bs:List UInt8}{o:Out}
structure zB(w:World)(tag:Nat->Nat)(C:Nat)(bs:List UInt8):Prop where
 tk:takes bs=true
 nd:(eF bs).need<=200000
 code:∃sb cp,nM w.heap.size w C 0 sb 0 cp (eF bs).ay/\tag sb=0
 aF:w.cell? (Ad C 1)=some (Im (eF bs).aF)
 need:w.cell? (Ad C 2)=some (Im (eF bs).need)
 Yl:tag C=0
 aU:mZ w
 one:1<w.heap.size
 y9:tag 1=0
theorem zB.aaX(h:zB w tag C bs):xU w C (eF bs):=by
 obtain⟨sb,cp,h1,_⟩:=h.code;exact⟨⟨sb,cp,h1⟩,h.aF,h.need⟩
theorem zB.aN(h:zB w tag C bs)(f:Lf w tag w' tag'):zB w' tag' C bs:=by
 obtain⟨sb,cp,h1,h2⟩:=h.code;have hs:=f.size;have hC:=f.aN C h1.xg h.Yl;have hS:=f.aN sb h1.wI h2;have h1':=f.aN 1 h.one h.y9;refine⟨h.tk,h.nd,⟨sb,cp,⟨by have:=h1.xg;omega,by have:=h1.wI;omega,(World.cell?_of_block hC).trans h1.slice,fun i st hi=>?_⟩,(f.tags sb h1.wI).trans h2⟩,(World.cell?_of_block hC).trans h.aF,(World.cell?_of_block hC).trans h.need,(f.tags C h1.xg).trans h.Yl,fun j hj=>(World.cell?_of_block h1').trans (h.aU j hj),by have:=h.one;omega,(f.tags 1 h.one).trans h.y9⟩;obtain⟨k0,k1,k2,k3,k4,k5,k6⟩:=h1.step i st hi;have hc:∀o,w'.cell? (Ad sb o)=w.cell? (Ad sb o):=fun o=>World.cell?_of_block hS;exact⟨by rw[hc];exact k0,by rw[hc];exact k1,by rw[hc];exact k2,by rw[hc];exact k3,by rw[hc];exact k4,by rw[hc];exact k5,by rw[hc];exact k6⟩
def Jw(s:aO)(ar af aa:Option Addr)(nr nf na:Nat)(w':World):Prop:=ru w'.heap.size w' ar af aa nr nf na s.vw
def Jr(o:Out)(y:World)(u:Value)(w':World):Prop:=w'.ownsRow y.heap.size 76 2 u o.aY.length (kZ o.aY)/\y.grownBy w' none
def IE(o:Out)(u:Value):Array Value:=#[.int .u8 o.status,u,Im (o.bG.getD 0 0),Im (o.bG.getD 1 0),Im (o.bG.getD 2 0),Im (o.bG.getD 3 0),Im (o.bG.getD 4 0),Im (o.bG.getD 5 0),Im (o.bG.getD 6 0),Im (o.bG.getD 7 0)]
def Ns(w:World)(o:Out)(b:Nat)(u:Value)(wx:World):Prop:=w.heap.size<=b/\wx.heap[b]? =some (.cells (IE o u) 35)/\wx.ownsRow w.heap.size 76 2 u o.aY.length (kZ o.aY)/\w.grownBy wx none
theorem agD{y:World}(hy:w.grownBy y none)(h:Jr o y u w2):Ns w o w2.heap.size u (w2.alloc (.cells (IE o u) 35)):=by
 have s1:=hy.size;have s2:=h.2.size;exact⟨by omega,heap_alloc_new _ _,wu (h.1.alloc _) s1,(hy.trans h.2).trans (World.grownBy_alloc w2 _ none)⟩
theorem Qg{y:World}{b:Nat}(hy:w.grownBy y none)(hb:w.heap.size<=b)(hz:y.heap[b]? =some (.cells #[.int .u8 0,Nl,Im 0,Im 0,Im 0,Im 0,Im 0,Im 0,Im 0,Im 0] 35))(h:Jr o y u w2):
 Ns w o b u ((((((((((w2.setCell (Ad b 0) (.int .u8 o.status)).setCell (Ad b 1) u).setCell (Ad b 2) (Im (o.bG.getD 0 0))).setCell (Ad b 3) (Im (o.bG.getD 1 0))).setCell (Ad b 4) (Im (o.bG.getD 2 0))).setCell (Ad b 5) (Im (o.bG.getD 3 0))).setCell (Ad b 6) (Im (o.bG.getD 4 0))).setCell (Ad b 7) (Im (o.bG.getD 5 0))).setCell (Ad b 8) (Im (o.bG.getD 6 0))).setCell (Ad b 9) (Im (o.bG.getD 7 0))):=by
 have s1:=hy.size;have s2:=h.2.size;have lb:=(Array.getElem?_eq_some_iff.1 hz).1;have hw:w2.heap[b]? =_:=(h.2.block b lb (by simp)).trans hz;have step:∀(w:World)(l:List Value)(i:Nat)(v:Value),w.heap[b]? =some (.cells l.toArray 35)->(w.setCell (Ad b i) v).heap[b]? =some (.cells (l.set i v).toArray 35):=fun w l i v h=>by
  have:=heap_setCell_same w b i _ _ v h;rw[this];simp
 have e9:=(step _ _ 9 (Im (o.bG.getD 7 0)) (step _ _ 8 (Im (o.bG.getD 6 0)) (step _ _ 7 (Im (o.bG.getD 5 0)) (step _ _ 6 (Im (o.bG.getD 4 0)) (step _ _ 5 (Im (o.bG.getD 3 0)) (step _ _ 4 (Im (o.bG.getD 2 0)) (step _ _ 3 (Im (o.bG.getD 1 0)) (step _ _ 2 (Im (o.bG.getD 0 0)) (step _ _ 1 u (step _ _ 0 (.int .u8 o.status) hw))))))))));simp only[List.set_cons_zero,List.set_cons_succ]at e9;have gs:=(((((((((dV w2 b 0 (.int .u8 o.status)).trans (dV _ b 1 u)).trans (dV _ b 2 (Im (o.bG.getD 0 0)))).trans (dV _ b 3 (Im (o.bG.getD 1 0)))).trans (dV _ b 4 (Im (o.bG.getD 2 0)))).trans (dV _ b 5 (Im (o.bG.getD 3 0)))).trans (dV _ b 6 (Im (o.bG.getD 4 0)))).trans (dV _ b 7 (Im (o.bG.getD 5 0)))).trans (dV _ b 8 (Im (o.bG.getD 6 0)))).trans (dV _ b 9 (Im (o.bG.getD 7 0)));refine⟨hb,e9,wu (h.1.kept gs ?_) s1,(hy.trans h.2).andThen gs fun j hj=>Or.inl (by cases hj;exact hb)⟩;cases hc:u.ownBlock with
 |none=>exact Or.inl rfl
 |some k=>
  right;intro e;cases e;have:=(h.1.lt b hc).1;omega
theorem ajl{y:World}(h:bg w tag L R pk cv cap ρ s)(hs:Small s)(hi:Ir s)(hg:w.grownBy y none):Calls prog 73 #[Pt L 0] y fun e w'=>∃ra rn rc fa fn fc aa an ac,e=.returned (.agg #[.slice ra rn rc,.slice fa fn fc,.slice aa an ac])/\y.grownBy w' none/\Jw s ra fa aa rn fn an w':=by
 have h2:=h.grow hg;refine(YE h2 hs).mono ?_;rintro e w' ⟨ra,rc,fa,fc,aa,ac,e1,e2,e3,e4,e5⟩;refine⟨ra,_,rc,fa,_,fc,aa,_,ac,e1,e5,?_⟩;have k1:w'.ownsRow y.heap.size 74 5 (.slice ra s.ah.length rc) (xI s.ah s.ah.length).length (uU (xI s.ah s.ah.length)):=by rw[Xm,seen_cells];exact e2
 have k2:w'.ownsRow y.heap.size 72 3 (.slice fa s.aG.length fc) (tN s.all s.aG).length (wB (tN s.all s.aG)):=by rw[LP,QJ];exact e3
 have k3:w'.ownsRow y.heap.size 72 3 (.slice aa s.aJ.length ac) (tN s.all s.aJ).length (wB (tN s.all s.aJ)):=by rw[LP,QJ];exact e4
 exact⟨ag1 k1,WS k2,WS k3,(Xm _ _).symm,(LP _ _).symm,(LP _ _).symm,QY hi h.ok hs⟩
theorem ag5{y yv:World}{ar af aa:Option Addr}{nr cr nf cf na ca:Nat}(hh:zB w tag C bs)(hi:Ir s)(h1:w.grownBy yv none)(hv:Jw s ar af aa nr nf na yv)(hg:yv.grownBy y none):
 Calls prog 16 #[Pt C 0,.agg #[.slice ar nr cr,.slice af nf cf,.slice aa na ca],.agg #[Im s.r0,Im s.r1,Im s.r2,Im s.r3,Im s.r4,Im s.r5,Im s.r6,Im s.r7],Im (eF bs).need] y fun e w'=>∃va vn vc,e=.returned (.agg (IE (s.out bs) (.slice va vn vc)))/\Jr (s.out bs) y (.slice va vn vc) w':=by
 have hy:=h1.trans hg;have hh2:=hh.aN (Lf.grown hy);refine(Xx y C bs hh.tk hh2.aaX s.vw ar af aa nr cr nf cf na ca s.r0 s.r1 s.r2 s.r3 s.r4 s.r5 s.r6 s.r7 (eF bs).need (ru.later hv (Below.Bj hg) hg.size) hh2.aU hh2.one hi.bG (by have:=hh.nd;omega)).mono ?_;rintro e w' ⟨va,e1,e2,e3⟩;obtain⟨a,c,rfl⟩:=wJ e2;exact⟨a,_,c,e1,e2,A8 e3 (Nat.le_refl _)⟩
end
section
variable {w w' w2 w1 W:World}{tag tag':Nat->Nat}{L R cap C n k rc:Nat}{ra:Option Addr}{pk:Nat->Nat}{cv u v:Value}{ρ:bW}{s:aO}{bs:List UInt8}
theorem adO:(prog.info? 167).map (fun i=>(i.zero,i.size,i.bytes))=some (some (.agg #[Im 0,Im 0,Im 0,Im 0,.bool false,Nl,Nl,Nl]),8,112):=by kernel_rfl
def Ii(i:Nat):List Value:=[Im (i:Int),Im (10 * (i+1):Int),Im 2,Im 0,.bool false,Nl,Nl,Nl]
def vY(k:Nat):List Value:=(List.range k).flatMap Ii
theorem PL(k:Nat):vY (k+1)=vY k++Ii k:=by
 unfold vY;rw[List.range_succ,List.flatMap_append];simp
theorem EU:∀k,(vY k).length=k * 8
 |0=>rfl
 |k+1=>by rw[PL,List.length_append,EU k];simp[Ii];omega
theorem VW:∀(n i:Nat),i<n->∀(j:Nat)(u:Value),(Ii i)[j]? =some u->(vY n)[i * 8+j]? =some u
 |0,i,h=>by omega
 |n+1,i,h=>by
  intro j u hu;have hj:=(List.getElem?_eq_some_iff.1 hu).1;have hj8:j<8:=hj;rw[PL];by_cases hi:i<n
  .rw[List.getElem?_append_left (by rw[EU];omega)];exact VW n i hi j u hu
  .have:i=n:=by omega
   subst this;rw[List.getElem?_append_right (by rw[EU];omega),EU,show i * 8+j-i * 8=j by omega];exact hu
def ES(C:Nat)(v:Value):Array Value:=#[Pt C 0,Im 0,Im 0,Im 0,Im 0,Im 0,Im 0,Im 0,Im 0,v,Im 0,Im 0,Im 0,Nl,Nl,Nl,Im 0,Im 0,Im 0,.bool false,.bool false,.bool false,.bool false,.bool false,.bool false,.bool false,.bool false,.bool false,.bool false,.bool false,.bool false,.bool false,.bool false,.bool false,.bool false,.bool false,.bool false,.bool false,.bool false,.bool false,.bool false,.bool false,.bool false,.bool false,.bool false,.bool false,.bool false,.bool false,.bool false,.bool false,.bool false]
theorem aeE(n:Nat):qO (Pt C 0) v (Nl) (Nl) (Nl) (uN n)=(ES C v).toList:=rfl
theorem nK.ae4{b:Nat}{cs:Array Value}{T:TypeId}{us:List Value}(h:w.heap[b]? =some (.cells cs T))(e:us=cs.toList):nK w b 0 us:=fun j u hj=>by
 subst e;have:=aA (j:=j) h;rw[Nat.zero_add,this,<-Array.getElem?_toList];exact hj
structure yj(W:World)(L C k:Nat)(ra:Option Addr)(rc:Nat)(wr:World):Prop where
 aW:wr.heap[L]? =some (.cells (ES C (.slice ra k rc)) 162)
 row:wr.ownsRow W.heap.size 167 8 (.slice ra k rc) k (vY k)
 grown:W.grownBy wr (some L)
def VY:bW:=fun t=>(if t<=4\/t%3=1 then 163 else 3,Nl,[])
def Ij(L R:Nat):Nat->Nat:=fun k=>if k=L\/k=R then 1 else 0
def vC(w:World)(L:Nat)(bs:List UInt8)(n:Nat)(w':World):Prop:=∃tag R pk cap ρ C,bg w' tag L R pk (Pt C 0) cap ρ (uN n)/\zB w' tag C bs/\(∀k,k<w.heap.size->tag k=0)/\w.grownBy w' none
theorem Ik{i:Nat}{r:Lr}(h:(uN n).ah[i]? =some r):r=lT/\i<n:=by
 have h':(List.replicate n lT)[i]? =some r:=h;rw[List.getElem?_replicate]at h';split at h'
 .exact⟨(Option.some.inj h').symm,by assumption⟩
 .cases h'
theorem yj.link{wr:World}(h:yj W L C n ra rc wr)(hL:L<W.heap.size)(h1:1<=n)(h4:n<=4):∃R,W.heap.size<=R/\bg wr (Ij L R) L R (fun _=>0) (Pt C 0) rc VY (uN n):=by
 have hlen:(vY n).length=n * 8:=EU n;obtain⟨g,rfl,hg1,hg2,hg3⟩:=yT h.row (j:=0) (u:=(vY n)[0]'(by omega)) (by simp);have hbg:∃cs,wr.heap[g]? =some (.cells cs 167):=by
  rcases h.row.2 with⟨e,_⟩|⟨g',cp,cur,e,_,e3,_⟩
  .cases e
  .simp only[Value.slice.injEq,Option.some.injEq,Addr.mk.injEq]at e;obtain⟨⟨rfl,_⟩,_⟩:=e;exact⟨_,e3⟩
 have hs:=h.grown.size;have aco:(uN n).ah.length=n:=by show(List.replicate n lT).length=n;simp
 refine⟨g,hg1,?_⟩;refine⟨⟨fun t ht=>⟨World.ownsRow_nil _ _ _ _,fun b e=>by cases e⟩,fun k hk=>?_⟩,⟨⟨rfl,rfl⟩,⟨rfl,rfl⟩,⟨rfl,rfl⟩,fun i r hr=>?_,fun i r hr=>?_,fun i r hr=>?_⟩,⟨fun q hq=>absurd hq List.not_mem_nil,fun q hq=>absurd hq List.not_mem_nil,fun q hq=>absurd hq List.not_mem_nil,fun i r hr q hq=>?_,rfl,?_,?_⟩,?_,fun i r hr=>?_,fun q p hp=>(by cases hp),fun b hb j=>?_,?_,?_,?_,fun q hq=>absurd hq (Nat.not_lt_zero _),fun q q' hq=>absurd hq (Nat.not_lt_zero _)⟩
 .unfold Ij;rw[if_neg (by omega)]
 .rw[(Ik hr).1];exact⟨by show(if _ then _ else _)=_;rw[if_neg (by omega)],rfl⟩
 .rw[(Ik hr).1];exact⟨by show(if _ then _ else _)=_;rw[if_neg (by omega)],rfl⟩
 .rw[(Ik hr).1];exact⟨by show(if _ then _ else _)=_;rw[if_pos (by omega)],rfl⟩
 .rw[(Ik hr).1]at hq;exact absurd hq List.not_mem_nil
 .show 0<(uN n).ah.length;omega
 .omega
 .rw[aco];exact nK.ae4 h.aW (aeE n)
 .obtain⟨rfl,hi⟩:=Ik hr;intro j u hu;exact hg3 _ u (VW n i hi j u hu)
 .unfold Ij at hb;split at hb
  .rename_i e;rcases e with rfl|rfl
   .exact eu h.aW
   .obtain⟨cs,hcs⟩:=hbg;exact eu hcs
  .cases hb
 .exact if_pos (Or.inl rfl)
 .exact if_pos (Or.inr rfl)
 .omega
theorem yj.next{wr y w3:World}{g c:Nat}(h:yj W L C k ra rc wr)(hL:L<W.heap.size)(hy:wr.grownBy y none)(hg:y.grownBy w3 (Value.slice ra k rc).ownBlock)(how:w3.ownsRow W.heap.size 167 8 (.slice (some (Ad g 0)) (k+1) c) (k+1) (vY k++Ii k)):
 w3.cell? (Ad L 9)=some (.slice ra k rc)/\w3.frozen? (Ad L 9)=false/\yj W L C (k+1) (some (Ad g 0)) c (w3.setCell (Ad L 9) (.slice (some (Ad g 0)) (k+1) c)):=by
 have hs:=h.grown.size;have hs2:=hy.size;have hw3:w3.heap[L]? =some (.cells (ES C (.slice ra k rc)) 162):=by
  rw[hg.block L (by omega) (fun e=>by have:=(h.row.lt L e.symm).1;omega),hy.block L (by omega) (by simp)];exact h.aW
 have gs:=dV w3 L 9 (.slice (some (Ad g 0)) (k+1) c);refine⟨aA hw3,eu hw3,heap_setCell_same _ _ _ _ _ _ hw3,?_,((h.grown.andThen hy fun j hj=>by cases hj).andThen hg fun j hj=>Or.inl (h.row.lt j hj).1).trans gs⟩;rw[PL];refine how.kept gs ?_;right;intro e;have:=(how.lt g rfl).1;simp only[Value.ownBlock,Option.some.injEq]at e;omega
theorem aeD{wr:World}{code:ByteArray}(h:yj W L C n ra rc wr)(h1:1<=n)(h4:n<=4)(hL:L<W.heap.size)(ht:takes code.data.toList=true)(hnd:(eF code.data.toList).need<=200000)(hT:mZ w)(hone:1<w.heap.size)(hb:Below w.heap.size w w1)(hcd:xU w1 C (eF code.data.toList))(hL1:w1.heap.size<=L)(hg:w1.grownBy W none):vC w L code.data.toList n wr:=by
 obtain⟨R,hR,hk⟩:=h.link hL h1 h4;have hg2:w1.grownBy wr none:=hg.andThen h.grown fun j hj=>Or.inl (by cases hj;exact hL1);have hs1:=hb.size;have hs2:=hg.size;have tg:∀k,k<w1.heap.size->Ij L R k=0:=fun k hk=>if_neg (by omega);have hb2:Below w1.heap.size w1 wr:=Below.Bj hg2;have hcd2:=hcd.later hb2;obtain⟨sb,cp,hc⟩:=hcd.code;refine⟨Ij L R,R,fun _=>0,rc,VY,C,hk,⟨ht,hnd,⟨sb,cp,hc.later hb2 hb2.size,tg sb hc.wI⟩,hcd2.aF,hcd2.need,tg C hc.xg,(hT.later hb hone).later hb2 (by omega),by have:=hg2.size;omega,tg 1 (by omega)⟩,fun k hk=>tg k (by omega),(A8 hb (Nat.le_refl _)).trans hg2⟩
theorem VB(code:ByteArray)(ht:takes code.data.toList=true)(hnd:(eF code.data.toList).need<=200000)(n:Nat)(h1:1<=n)(h4:n<=4)(hT:mZ w)(hone:1<w.heap.size):
 Calls prog 59 #[.string code,Im (n:Int)] w fun e w'=>∃L,e=.returned (.tuple #[Pt L 0,Im 0])/\vC w L code.data.toList n w':=by
 have wR:=bC (Po w code);obtain⟨T0,hT0,hz0,hz1,hz2⟩:=info_parts adO;have d1:decide ((n:Int)<1)=false:=decide_eq_false (by omega);have d2:decide ((4:Int)<(n:Int))=false:=decide_eq_false (by omega);have HC:=bC (And.intro (And.intro ht hnd) (And.intro hT hone));clear ht hnd hT hone;go_enter func59,ntmps59;go_wp2_with fail;refine wR.out.mono ?_;rintro e w1 ⟨hb,⟨_,C,hC,rfl,hcd⟩|⟨hf,_⟩⟩
 .clear wR;obtain⟨W,hW⟩:∃W,w1.alloc (.cells (ES C (Nl)) 162)=W:=⟨_,rfl⟩;have hblk:W.heap[w1.heap.size]? =some (.cells (ES C (Nl)) 162):=by rw[<-hW];exact heap_alloc_new w1 _
  have hgW:w1.grownBy W none:=by rw[<-hW];exact World.grownBy_alloc w1 _ none
  have GR:w1.heap.size<W.heap.size:=(Array.getElem?_eq_some_iff.1 hblk).1;obtain⟨L,hL⟩:∃L,w1.heap.size=L:=⟨_,rfl⟩;have HE:Hid (∀wr ra rc,yj W L C n ra rc wr->vC w L code.data.toList n wr):=fun wr ra rc h=>aeD h h1 h4 (by omega) HC.out.1.1 HC.out.1.2 HC.out.2.1 HC.out.2.2 hb hcd (by omega) hgW;have H0:Hid (yj W L C 0 none 0 W):=⟨by rw[<-hL];exact hblk,World.ownsRow_nil _ _ _ _,World.grownBy.refl _ _⟩;clear hb hcd hblk hgW HC;unfold ES at hW;go_wp2_with fail;rw[hL]at GR;clear hW;go_loopg [28] (n+1) (fun gg i wr=>Hid (∃(k:Nat)(ra:Option Addr)(rc:Nat),k+gg=n+1/\k<=n/\i=Im k/\yj W L C k ra rc wr))
  case atStart=>exact⟨0,none,0,by omega,Nat.zero_le _,rfl,H0.out⟩
  case round=>
   obtain⟨k,ra,rc,hk1,hk2,rfl,hS⟩:=hrel.out;clear hrel H0;by_cases hlt:k<n
   .have d3:decide ((k:Int)<(n:Int))=true:=decide_eq_true (by omega);obtain⟨g',hg'⟩:∃g',gk=g'+1:=⟨gk-1,by omega⟩;have c9:wr.cell? (Ad L 9)=some (.slice ra k rc):=aA hS.aW;have hLw:L<wr.heap.size:=dS hS.aW;have HN:Hid (∀y,wr.grownBy y none->Calls prog 101 #[Im (k:Int)] y fun e w3=>e=.returned (.agg #[Im (k:Int),Im (10 * (k+1):Int),Im 2,Im 0,.bool false,Nl,Nl,Nl])/\w3.cell? (Ad L 9)=some (.slice ra k rc)/\¬L=w3.heap.size/\(∀o,(w3.alloc o).cell? (Ad L 9)=some (.slice ra k rc))/\Hid (∀y,w3.grownBy y none->y.ownsRow W.heap.size 167 8 (.slice ra k rc) k (vY k))/\Hid (W.heap.size<=w3.heap.size)/\Hid (wr.grownBy w3 none)):=fun y hy=>by
     refine(aeG k (by omega)).mono ?_;rintro e w3 ⟨e1,e2⟩;have hg:=hy.trans e2;have hsz:=hg.size;have hsz2:=hS.grown.size;refine⟨e1,hg.cell c9 (by simp),by omega,fun o=>(hg.trans (World.grownBy_alloc w3 o none)).cell c9 (by simp),fun y hy2=>hS.row.kept (hg.trans hy2) (by cases (Value.slice ra k rc).ownBlock<;>simp),by show W.heap.size<=w3.heap.size;omega,hg⟩
    have HX:Hid (∀(y w3:World)(g c:Nat),wr.grownBy y none->y.grownBy w3 (Value.slice ra k rc).ownBlock->w3.ownsRow W.heap.size 167 8 (.slice (some (Ad g 0)) (k+1) c) (k+1) (vY k++[Im (k:Int),Im (10 * (k+1):Int),Im 2,Im 0,.bool false,Nl,Nl,Nl])->w3.cell? (Ad L 9)=some (.slice ra k rc)/\w3.frozen? (Ad L 9)=false/\Hid (yj W L C (k+1) (some (Ad g 0)) c (w3.setCell (Ad L 9) (.slice (some (Ad g 0)) (k+1) c)))):=fun y w3 g c hy hg how=>hS.next GR hy hg how;clear hS;have hlen:=EU k;generalize vY k=cells at *;go_wp2_with fail;go_region_law
     ((first|(refine step_append_lies _ (by rfl) _ _ _ (by rfl) W.heap.size 167 T0 _ 8 112 Tryz.underlying153 hT0 hz0 hz1 hz2 (by rfl) (by omega) (.slice ra k rc) k cells (by rfl) (HO.out _ (by repeat (first|exact World.grownBy.refl _ _|refine fG ?_|refine fH ?_|refine gB ?_))) (Ad w3.heap.size 0) 1 1 [Im (k:Int),Im (10 * (k+1):Int),Im 2,Im 0,.bool false,Nl,Nl,Nl] (by rfl) (by rfl) (World.news_of_block (cs:=#[Im (k:Int),Im (10 * (k+1):Int),Im 2,Im 0,.bool false,Nl,Nl,Nl]) (t:=167) (fr:=(0,0)) (heap_alloc_new w3 _)) (by simp[Value.oneCell']) (by omega) (by unfold maxLen;omega) (by omega) (by have:=Nk.out;simp;omega) (w3.heap.size+1) (by simp) ?_;intro gg cap1 w4 hown1 hgrow hat hlt;obtain⟨s1,s2,s3⟩:=HX.out _ _ _ _ (HG.out.trans (by repeat (first|exact World.grownBy.refl _ _|refine fG ?_|refine fH ?_|refine gB ?_))) hgrow hown1;have HK:=bC s3;clear s3)|(go_simp;go_at_call 101;refine(HN.out _ (by repeat (first|exact World.grownBy.refl _ _|refine fG ?_|refine fH ?_))).mono ?_;rintro e w3 ⟨rfl,q1,n1,n2,HO,Nk,HG⟩)))
    all_goals
     clear HO HX HN hown1 hgrow hat;go_wp2_with fail;go_roundg g'
     case measure=>omega
     case rel=>exact⟨k+1,_,_,by omega,by omega,by go_num,HK.out.out⟩
   .have d3:decide ((k:Int)<(n:Int))=false:=decide_eq_false (by omega);have hke:k=n:=by omega
    subst hke;have HF:=bC (HE.out _ _ _ hS);clear hS HE;go_wp2_with fail;go_ret2;exact⟨L,rfl,HF.out⟩
 .rw[HC.out.1.1]at hf;cases hf
end
section
variable {w w' w2 w1:World}{L n:Nat}{bs:List UInt8}
theorem vC.back(h:vC w1 L bs n w')(hg:w.grownBy w1 none):vC w L bs n w':=by
 obtain⟨tag,R,pk,cap,ρ,C,h1,h2,h3,h4⟩:=h;exact⟨tag,R,pk,cap,ρ,C,h1,h2,fun k hk=>h3 k (Nat.lt_of_lt_of_le hk hg.size),hg.trans h4⟩
def yI(src code:ByteArray):ByteArray:=if (uG src).2.1=0 then (uG src).1 else code
def qA(src code:ByteArray):Bool:=takes (yI src code).data.toList&&decide ((eF (yI src code).data.toList).need<=200000)
theorem acg(src code:ByteArray)(c:Int)(hc:aZ c)(n:Nat)(hpn:(1:Int)+mP c 4=(n:Int))(hT:mZ w)(hone:1<w.heap.size):
 Calls prog 33 #[.string src,.string code,Im c] w fun e w'=>(qA src code=true->∃L,e=.returned (Pt L 0)/\vC w L (yI src code).data.toList n w')/\(qA src code=false->e=.returned (.pointer none)/\w.grownBy w' none):=by
 have Aq:=bC (TB src w);have wR:Hid (∀(y:World)(s:ByteArray),w.grownBy y none->Calls prog 31 #[.string s] y (Jp s y)):=fun y s _=>Po y s;have HP:Hid (∀y,Calls prog 28 #[Im c,Im 4] y fun e w'=>e=.returned (Im (mP c 4))/\w'=y):=fun y=>Fh y c 4 hc (by omega) (by omega);have hp0:0<=mP c 4/\mP c 4<4:=Iy (by omega);have hp1:IntKind.i64.wrap (1+mP c 4)=1+mP c 4:=by rw[IntKind.wrap_i64];omega
 have AL:=bC (And.intro hT hone);clear hT hone;by_cases he:(uG src).2.1=0
 .have HB:Hid (yI src code=(uG src).1):=if_pos he;have d0:((uG src).2.1 !=0)=false:=by rw[he];rfl
  generalize uG src=R at *;obtain⟨cs,en,ea⟩:=R;go_enter func33,ntmps33;go_wp2_with fail;refine Aq.out.mono ?_;rintro e w1 ⟨rfl,g1⟩;go_wp2_with fail;refine(wR.out _ cs (by repeat (first|exact World.grownBy.refl _ _|assumption))).mono ?_;rintro e w2 ⟨hb,⟨ht,C,hC,rfl,hcd⟩|⟨ht,rfl⟩⟩
  .by_cases hn:(eF cs.data.toList).need<=200000
   .have d2:decide (200000<(eF cs.data.toList).need)=false:=decide_eq_false (by omega);have oh:Hid (qA src code=true):=by
     show _=_;rw[qA,HB.out,ht,decide_eq_true hn];rfl
    have yg:Hid (Calls prog 17 #[Pt C 0] w2 fun e w'=>e=.returned (Im (eF cs.data.toList).need)/\w'=w2):=ER hcd.need;have MV:Hid (Calls prog 59 #[.string cs,Im ((n:Nat):Int)] w2 fun e w'=>∃L,e=.returned (.tuple #[Pt L 0,Im 0])/\vC w L (yI src code).data.toList n w'):=by
     refine(VB cs ht hn n (by omega) (by omega) ((AL.out.1.later (Below.Bj g1) AL.out.2).later hb (by have:=g1.size;have:=AL.out.2;omega)) (by have:=g1.size;have:=hb.size;have:=AL.out.2;omega)).mono ?_;rintro e w' ⟨L,e1,e2⟩;exact⟨L,e1,by rw[HB.out];exact e2.back (g1.trans (A8 hb (Nat.le_refl _)))⟩
    clear hb hcd wR Aq g1 hn;generalize (eF cs.data.toList).need=nd at *;go_wp2_with (first|(go_at_call 17;refine yg.out.mono ?_;rintro e w' ⟨rfl,hw⟩;have hw':=hw.symm;subst hw';clear hw)|(go_at_call 28;refine(HP.out _).mono ?_;rintro e w' ⟨rfl,hw⟩;have hw':=hw.symm;subst hw';clear hw)|(go_at_call 59;refine MV.out.mono ?_;rintro e w' ⟨L,rfl,hN⟩));go_ret;exact⟨fun _=>⟨L,rfl,hN⟩,fun h=>(by rw[oh.out]at h;cases h)⟩
   .have d2:decide (200000<(eF cs.data.toList).need)=true:=decide_eq_true (by omega);have oh:Hid (qA src code=false):=by
     show _=_;rw[qA,HB.out,ht,decide_eq_false hn];rfl
    have yg:Hid (Calls prog 17 #[Pt C 0] w2 fun e w'=>e=.returned (Im (eF cs.data.toList).need)/\w'=w2):=ER hcd.need;have HG:Hid (w.grownBy w2 none):=g1.trans (A8 hb (Nat.le_refl _));clear hb hcd wR Aq g1 hn;generalize (eF cs.data.toList).need=nd at *;go_wp2_with (go_at_call 17;refine yg.out.mono ?_;rintro e w' ⟨rfl,hw⟩;have hw':=hw.symm;subst hw';clear hw);go_ret;exact⟨fun h=>(by rw[oh.out]at h;cases h),fun _=>⟨rfl,HG.out⟩⟩
  .have oh:Hid (qA src code=false):=by
    show _=_;rw[qA,HB.out,ht];rfl
   have HG:Hid (w.grownBy w2 none):=g1.trans (A8 hb (Nat.le_refl _));clear hb wR Aq g1;go_wp2_with fail;go_ret;exact⟨fun h=>(by rw[oh.out]at h;cases h),fun _=>⟨rfl,HG.out⟩⟩
 .have HB:Hid (yI src code=code):=if_neg he;have d0:((uG src).2.1 !=0)=true:=by simpa using he
  generalize uG src=R at *;obtain⟨cs,en,ea⟩:=R;go_enter func33,ntmps33;go_wp2_with fail;refine Aq.out.mono ?_;rintro e w1 ⟨rfl,g1⟩;go_wp2_with fail;refine(wR.out _ code (by repeat (first|exact World.grownBy.refl _ _|assumption))).mono ?_;rintro e w2 ⟨hb,⟨ht,C,hC,rfl,hcd⟩|⟨ht,rfl⟩⟩
  .by_cases hn:(eF code.data.toList).need<=200000
   .have d2:decide (200000<(eF code.data.toList).need)=false:=decide_eq_false (by omega);have oh:Hid (qA src code=true):=by
     show _=_;rw[qA,HB.out,ht,decide_eq_true hn];rfl
    have yg:Hid (Calls prog 17 #[Pt C 0] w2 fun e w'=>e=.returned (Im (eF code.data.toList).need)/\w'=w2):=ER hcd.need;have MV:Hid (Calls prog 59 #[.string code,Im ((n:Nat):Int)] w2 fun e w'=>∃L,e=.returned (.tuple #[Pt L 0,Im 0])/\vC w L (yI src code).data.toList n w'):=by
     refine(VB code ht hn n (by omega) (by omega) ((AL.out.1.later (Below.Bj g1) AL.out.2).later hb (by have:=g1.size;have:=AL.out.2;omega)) (by have:=g1.size;have:=hb.size;have:=AL.out.2;omega)).mono ?_;rintro e w' ⟨L,e1,e2⟩;exact⟨L,e1,by rw[HB.out];exact e2.back (g1.trans (A8 hb (Nat.le_refl _)))⟩
    clear hb hcd wR Aq g1 hn;generalize (eF code.data.toList).need=nd at *;go_wp2_with (first|(go_at_call 17;refine yg.out.mono ?_;rintro e w' ⟨rfl,hw⟩;have hw':=hw.symm;subst hw';clear hw)|(go_at_call 28;refine(HP.out _).mono ?_;rintro e w' ⟨rfl,hw⟩;have hw':=hw.symm;subst hw';clear hw)|(go_at_call 59;refine MV.out.mono ?_;rintro e w' ⟨L,rfl,hN⟩));go_ret;exact⟨fun _=>⟨L,rfl,hN⟩,fun h=>(by rw[oh.out]at h;cases h)⟩
   .have d2:decide (200000<(eF code.data.toList).need)=true:=decide_eq_true (by omega);have oh:Hid (qA src code=false):=by
     show _=_;rw[qA,HB.out,ht,decide_eq_false hn];rfl
    have yg:Hid (Calls prog 17 #[Pt C 0] w2 fun e w'=>e=.returned (Im (eF code.data.toList).need)/\w'=w2):=ER hcd.need;have HG:Hid (w.grownBy w2 none):=g1.trans (A8 hb (Nat.le_refl _));clear hb hcd wR Aq g1 hn;generalize (eF code.data.toList).need=nd at *;go_wp2_with (go_at_call 17;refine yg.out.mono ?_;rintro e w' ⟨rfl,hw⟩;have hw':=hw.symm;subst hw';clear hw);go_ret;exact⟨fun h=>(by rw[oh.out]at h;cases h),fun _=>⟨rfl,HG.out⟩⟩
  .have oh:Hid (qA src code=false):=by
    show _=_;rw[qA,HB.out,ht];rfl
   have HG:Hid (w.grownBy w2 none):=g1.trans (A8 hb (Nat.le_refl _));clear hb wR Aq g1;go_wp2_with fail;go_ret;exact⟨fun h=>(by rw[oh.out]at h;cases h),fun _=>⟨rfl,HG.out⟩⟩
end
section
variable {w w' w2 w1:World}{tag tag':Nat->Nat}{L R cap C:Nat}{pk:Nat->Nat}{cv u v:Value}{ρ:bW}{s:aO}{bs:List UInt8}{o:Out}
theorem bg.agc(h0:bg w tag L R pk cv cap ρ s)(z0 z1 z2 z3 z4 z5 z6 z7:Int):bg ((((((((w.setCell (Ad L 1) (Im z0)).setCell (Ad L 2) (Im z1)).setCell (Ad L 3) (Im z2)).setCell (Ad L 4) (Im z3)).setCell (Ad L 5) (Im z4)).setCell (Ad L 6) (Im z5)).setCell (Ad L 7) (Im z6)).setCell (Ad L 8) (Im z7)) tag L R pk cv cap ρ (s.bG z0 z1 z2 z3 z4 z5 z6 z7)/\Lf w tag ((((((((w.setCell (Ad L 1) (Im z0)).setCell (Ad L 2) (Im z1)).setCell (Ad L 3) (Im z2)).setCell (Ad L 4) (Im z3)).setCell (Ad L 5) (Im z4)).setCell (Ad L 6) (Im z5)).setCell (Ad L 7) (Im z6)).setCell (Ad L 8) (Im z7)) tag:=by
 obtain⟨h1,f1⟩:=h0.dF (j:=1) (u:=Im z0) (Nat.lt_of_lt_of_le (by decide:_<19) (rZ _ _ _ _ _ _)) (s':={s with r0:=z0}) ⟨h0.aU.aG,h0.aU.aP,h0.aU.aJ,h0.aU.aT,h0.aU.aX,h0.aU.aQ⟩ ⟨h0.ok.aG,h0.ok.aP,h0.ok.aJ,h0.ok.aQ,h0.ok.kept,h0.ok.turn,h0.ok.ah⟩ rfl rfl rfl;obtain⟨h2,f2⟩:=h1.dF (j:=2) (u:=Im z1) (Nat.lt_of_lt_of_le (by decide:_<19) (rZ _ _ _ _ _ _)) (s':={{s with r0:=z0}with r1:=z1}) ⟨h1.aU.aG,h1.aU.aP,h1.aU.aJ,h1.aU.aT,h1.aU.aX,h1.aU.aQ⟩ ⟨h1.ok.aG,h1.ok.aP,h1.ok.aJ,h1.ok.aQ,h1.ok.kept,h1.ok.turn,h1.ok.ah⟩ rfl rfl rfl;obtain⟨h3,f3⟩:=h2.dF (j:=3) (u:=Im z2) (Nat.lt_of_lt_of_le (by decide:_<19) (rZ _ _ _ _ _ _)) (s':={{{s with r0:=z0}with r1:=z1}with r2:=z2}) ⟨h2.aU.aG,h2.aU.aP,h2.aU.aJ,h2.aU.aT,h2.aU.aX,h2.aU.aQ⟩ ⟨h2.ok.aG,h2.ok.aP,h2.ok.aJ,h2.ok.aQ,h2.ok.kept,h2.ok.turn,h2.ok.ah⟩ rfl rfl rfl;obtain⟨h4,f4⟩:=h3.dF (j:=4) (u:=Im z3) (Nat.lt_of_lt_of_le (by decide:_<19) (rZ _ _ _ _ _ _)) (s':={{{{s with r0:=z0}with r1:=z1}with r2:=z2}with r3:=z3}) ⟨h3.aU.aG,h3.aU.aP,h3.aU.aJ,h3.aU.aT,h3.aU.aX,h3.aU.aQ⟩ ⟨h3.ok.aG,h3.ok.aP,h3.ok.aJ,h3.ok.aQ,h3.ok.kept,h3.ok.turn,h3.ok.ah⟩ rfl rfl rfl;obtain⟨h5,f5⟩:=h4.dF (j:=5) (u:=Im z4) (Nat.lt_of_lt_of_le (by decide:_<19) (rZ _ _ _ _ _ _)) (s':={{{{{s with r0:=z0}with r1:=z1}with r2:=z2}with r3:=z3}with r4:=z4}) ⟨h4.aU.aG,h4.aU.aP,h4.aU.aJ,h4.aU.aT,h4.aU.aX,h4.aU.aQ⟩ ⟨h4.ok.aG,h4.ok.aP,h4.ok.aJ,h4.ok.aQ,h4.ok.kept,h4.ok.turn,h4.ok.ah⟩ rfl rfl rfl
 obtain⟨h6,f6⟩:=h5.dF (j:=6) (u:=Im z5) (Nat.lt_of_lt_of_le (by decide:_<19) (rZ _ _ _ _ _ _)) (s':={{{{{{s with r0:=z0}with r1:=z1}with r2:=z2}with r3:=z3}with r4:=z4}with r5:=z5}) ⟨h5.aU.aG,h5.aU.aP,h5.aU.aJ,h5.aU.aT,h5.aU.aX,h5.aU.aQ⟩ ⟨h5.ok.aG,h5.ok.aP,h5.ok.aJ,h5.ok.aQ,h5.ok.kept,h5.ok.turn,h5.ok.ah⟩ rfl rfl rfl;obtain⟨h7,f7⟩:=h6.dF (j:=7) (u:=Im z6) (Nat.lt_of_lt_of_le (by decide:_<19) (rZ _ _ _ _ _ _)) (s':={{{{{{{s with r0:=z0}with r1:=z1}with r2:=z2}with r3:=z3}with r4:=z4}with r5:=z5}with r6:=z6}) ⟨h6.aU.aG,h6.aU.aP,h6.aU.aJ,h6.aU.aT,h6.aU.aX,h6.aU.aQ⟩ ⟨h6.ok.aG,h6.ok.aP,h6.ok.aJ,h6.ok.aQ,h6.ok.kept,h6.ok.turn,h6.ok.ah⟩ rfl rfl rfl;obtain⟨h8,f8⟩:=h7.dF (j:=8) (u:=Im z7) (Nat.lt_of_lt_of_le (by decide:_<19) (rZ _ _ _ _ _ _)) (s':={{{{{{{{s with r0:=z0}with r1:=z1}with r2:=z2}with r3:=z3}with r4:=z4}with r5:=z5}with r6:=z6}with r7:=z7}) ⟨h7.aU.aG,h7.aU.aP,h7.aU.aJ,h7.aU.aT,h7.aU.aX,h7.aU.aQ⟩ ⟨h7.ok.aG,h7.ok.aP,h7.ok.aJ,h7.ok.aQ,h7.ok.kept,h7.ok.turn,h7.ok.ah⟩ rfl rfl rfl;exact⟨h8,(((((((f1).trans f2).trans f3).trans f4).trans f5).trans f6).trans f7).trans f8⟩
end
end
section
open Go.RowKit
theorem Dl(W:World)(L:Nat):∀j:Nat,W.cell? (Ad L j)=W.cell? (Ad L j):=fun _=>rfl
theorem Dk{x W:World}{L:Nat}{o:Obj}(h:∀j:Nat,x.cell? (Ad L j)=W.cell? (Ad L j))(hn:L<x.heap.size):∀j:Nat,(x.alloc o).cell? (Ad L j)=W.cell? (Ad L j):=fun j=>by
 rw[<-h j];exact World.cell?_of_block (Below.heap_alloc x o L hn)
theorem EL{x W:World}{L b i:Nat}{v:Value}(h:∀j:Nat,x.cell? (Ad L j)=W.cell? (Ad L j))(hn:b≠L):∀j:Nat,(x.setCell (Ad b i) v).cell? (Ad L j)=W.cell? (Ad L j):=fun j=>by
 rw[<-h j];exact World.cell?_setCell_other _ _ _ _ (by intro e;cases e;exact hn rfl)
theorem Hu{x W:World}{L:Nat}(h:∀j:Nat,x.cell? (Ad L j)=W.cell? (Ad L j)):∀j:Nat,x.drew.cell? (Ad L j)=W.cell? (Ad L j):=h
theorem Hw{x W:World}{L n:Nat}(h:∀j:Nat,x.cell? (Ad L j)=W.cell? (Ad L j)):∀j:Nat,(x.drewN n).cell? (Ad L j)=W.cell? (Ad L j):=fun j=>by rw[World.cell?_drewN];exact h j
end
end Go.Proofs.YthllhabjfchgiaaGreatDoor
