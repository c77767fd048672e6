import Derived.Test.YthllhabjfchgiaaGreatDoorHz22
set_option maxRecDepth 100000
set_option maxHeartbeats 8000000
namespace Go.Proofs.YthllhabjfchgiaaGreatDoor
open _root_.Go.Proofs.Tryz
section
open Go.RowKit Hx
attribute [local go_sem ↓] Go.wp_at_zero Go.wp_at_succ
attribute [local go_sem] bT
section
def eH(fn:FuncId)(more:List Value)(s:ByteArray)(p:Ps)(r:Ex×Ps):Prop:=
 ∀(P:Nat)(w:World),aC w P s p->Calls prog fn (Pt P 0::more).toArray w fun e w'=>∃v,e=.returned v/\r.1.here r.1.at' w' w.heap.size w'.heap.size v/\aC w' P s r.2/\w.grownBy w' (some P)
structure Reader(s:ByteArray)(ex:Ps->Ex×Ps)(d:Nat):Prop where
 dB:kY s ex d
 reads:∀p,p.Ok s->Deep d p->eH 238 [] s p (ex p)
theorem cZ.aN{e:Ex}(h:cZ e){a:Int}{w w':World}{lo hi P:Nat}{v:Value}(hh:e.here a w lo hi v)(hP:P<lo)(hi':hi<=w.heap.size)(hg:w.grownBy w' (some P)):e.here a w' lo hi v:=
 (h.law a).loc _ _ _ _ _ hh fun b b1 b2=>hg.block b (by omega) (by simp;omega)
variable {s:ByteArray}{ex:Ps->Ex×Ps}{d:Nat}{p:Ps}
theorem U6(hs:s.size<=4000)(h:Reader s ex d)(ok:p.Ok s)(hd:Deep (d+1) p):eH 274 [] s p (CY s ex p):=by
 intro P w hp;have hlt:=hp.lt;have o1:=ok.open' [40];have d1:=hd.open' ok (t:=[40]) (by simp);obtain⟨g1,x1⟩:=h.dB _ o1 d1;have H0:Hid (Calls prog 237 #[Pt P 0,.string ⟨#[40]⟩] w (dP P s w (.tuple #[]) (p.open' s [40]))):=Iu hp ok hs [40];have H1:Hid (∀x,aC x P s (p.open' s [40])->Calls prog 238 #[Pt P 0] x fun e w'=>∃v,e=.returned v/\(ex (p.open' s [40])).1.here (ex (p.open' s [40])).1.at' w' x.heap.size w'.heap.size v/\aC w' P s (ex (p.open' s [40])).2/\x.grownBy w' (some P)):=fun x hx=>h.reads _ o1 d1 P x hx;have H2:Hid (∀x,aC x P s (ex (p.open' s [40])).2->Calls prog 240 #[Pt P 0,.string ⟨#[41]⟩] x (dP P s x (.tuple #[]) ((ex (p.open' s [40])).2.close s [41]))):=fun x hx=>Gv hx g1.ok hs [41];show Calls prog 274 #[Pt P 0] w fun e w'=>∃v,e=.returned v/\(ex (p.open' s [40])).1.here (ex (p.open' s [40])).1.at' w' w.heap.size w'.heap.size v/\aC w' P s ((ex (p.open' s [40])).2.close s [41])/\w.grownBy w' (some P);generalize ex (p.open' s [40])=r at *;generalize p.open' s [40]=q at *;generalize r.2.close s [41]=q2 at *;have HX:Hid (cZ r.1):=x1;clear hp o1 d1 g1 x1 ok hd h;go_enter func274,ntmps274;go_wp2_with fail;refine H0.out.mono ?_;rintro e w1 ⟨rfl,p1,k1⟩;have bP:Hid (aC w1 P s q/\w.grownBy w1 (some P)):=⟨p1,k1⟩;clear p1 k1 H0;go_wp2_with fail;refine(H1.out _ bP.out.1).mono ?_;rintro e w2 ⟨v,rfl,e2,p2,k2⟩;have HP2:Hid (r.1.here r.1.at' w2 w1.heap.size w2.heap.size v/\aC w2 P s r.2/\w1.grownBy w2 (some P)):=⟨e2,p2,k2⟩;clear e2 p2 k2 H1;go_wp2_with fail
 refine(H2.out _ HP2.out.2.1).mono ?_;rintro e w3 ⟨rfl,p3,k3⟩;have dG:Hid (aC w3 P s q2/\w2.grownBy w3 (some P)):=⟨p3,k3⟩;clear p3 k3 H2;go_wp2_with fail;go_ret;obtain⟨a1,a2⟩:=bP.out;obtain⟨b0,b1,b2⟩:=HP2.out;obtain⟨c1,c2⟩:=dG.out;have s1:=a2.size;have s2:=b2.size;have s3:=c2.size;exact⟨v,rfl,(HX.out.law _).wide _ _ _ _ _ _ (HX.out.aN b0 (by omega) (Nat.le_refl _) c2) s1 s3,c1,(a2.trans b2).trans c2⟩
end
section
theorem kK(w:World)(o:Obj):(w.alloc o).heap.size=w.heap.size+1:=Array.size_push ..
theorem EY{T' T:TypeId}{at' aj kind:Int}{K:Hx.Kids}{mk:List Value->List Value}{dn:Dn}(hK:yh K){w:World}{lo:Nat}{us:List Value}(h:K w lo w.heap.size us)(hlo:lo<=w.heap.size)(a:Int){o:Obj}
 (ho:o=.cells (Im a::Im aj::Im kind::mk us).toArray T):(lW T' T at' aj kind K mk dn).here a (w.alloc o) lo (w.alloc o).heap.size (.iface T' (Pt w.heap.size 0)):=by
 subst ho;refine⟨w.heap.size,us,rfl,hlo,by rw[kK];omega,hK.loc _ _ _ _ _ h (fun b _ b2=>Below.heap_alloc _ _ _ b2),heap_alloc_new _ _⟩
theorem cZ.mQ{e:Ex}(h:cZ e){a:Int}{w:World}{lo hi:Nat}{v:Value}(hh:e.here a w lo hi v):
 ∃T b,v=.iface T (Pt b 0)/\(∀w,(method 576 T (Pt b 0) "helm/lang.price").run prog w=.ok (244,Pt b 0) w)/\lo<=b/\b<hi/\w.cell? (Ad b 1)=some (Im e.aj):=by
 obtain⟨T,b,h1,h2,h3,h4,h5,h6,h7⟩:=h.head _ _ _ _ _ hh;exact⟨T,b,h1,h2.mQ b,h3,h4,h6⟩
variable {s:ByteArray}{ex:Ps->Ex×Ps}{d:Nat}{p:Ps}{r:Ex×Ps}
theorem PI(hq:eH 269 [] s p r)(h1:p.is [45]=false)(h2:p.is [33]=false):eH 265 [] s p r:=by
 intro P w h;have HQ:Hid (∀n,Calls prog 269 #[Pt P 0] (w.drewN n) fun e w'=>∃v,e=.returned v/\r.1.here r.1.at' w' w.heap.size w'.heap.size v/\aC w' P s r.2/\w.grownBy w' (some P)):=fun n=>by
  refine(hq P (w.drewN n) (h.grow (dh _ n))).mono ?_;rintro e w' ⟨v,e1,e2,e3,e4⟩;exact⟨v,e1,e2,e3,((dh w n).but _).trans e4⟩
 have c2:=bK.c2 h;have c3:=bK.c3 h;have t1:(p.k.text.toList==[45])=false:=by rw[ByteArray.toList_eq];exact h1
 have t2:(p.k.text.toList==[33])=false:=by rw[ByteArray.toList_eq];exact h2
 clear h hq h1 h2;show Calls prog 265 #[Pt P 0] w _;go_enter func265,ntmps265;go_wp2_with fail;go_quiet (fail);go_wp2_with fail;refine(HQ.out _).mono ?_;rintro e w2 ⟨v,rfl,h3⟩;have HH:Hid (r.1.here r.1.at' w2 w.heap.size w2.heap.size v/\aC w2 P s r.2/\w.grownBy w2 (some P)):=h3;clear h3 HQ;go_wp2_with fail;go_ret;exact⟨_,rfl,HH.out⟩
theorem VR(hs:s.size<=4000)(ok:p.Ok s)(hq:eH 265 [] s (p.next s) r)(hx:cZ r.1)(kind:Int)(hk:(p.is [45]=true/\kind=1)\/(p.is [45]=false/\p.is [33]=true/\kind=2)):
 eH 265 [] s p (uP p.k.at' kind p.k.text r.1,r.2):=by
 intro P w h;have hlt:=h.lt;have HN:Hid (∀n,Calls prog 236 #[Pt P 0] (w.drewN n) (dP P s w (lY p.k) (p.next s))):=fun n=>by
  refine(qQ (h.grow (dh w n)) ok hs).mono ?_;rintro e w' ⟨e1,e2,e3⟩;exact⟨e1,e2,((dh w n).but _).trans e3⟩
 have HQ:Hid (∀x,aC x P s (p.next s)->Calls prog 265 #[Pt P 0] x fun e w'=>∃v,e=.returned v/\r.1.here r.1.at' w' x.heap.size w'.heap.size v/\aC w' P s r.2/\x.grownBy w' (some P)):=fun x hx=>hq P x hx;have c2:=bK.c2 h;have c3:=bK.c3 h;have HX:Hid (cZ r.1):=hx;have hE:(uP p.k.at' kind p.k.text r.1).here=(lW 379 381 p.k.at' (bD [r.1.aj]) kind (nU (r.1.here r.1.at')) (fun us=>.string p.k.text::us)).here:=rfl;have HE:Hid ((uP p.k.at' kind p.k.text r.1).here=(lW 379 381 p.k.at' (bD [r.1.aj]) kind (nU (r.1.here r.1.at')) (fun us=>.string p.k.text::us)).here):=hE;have hat:(uP p.k.at' kind p.k.text r.1).at'=p.k.at':=rfl;have hk1:((p.k.text.toList==[45])=true/\kind=1)\/((p.k.text.toList==[45])=false/\(p.k.text.toList==[33])=true/\kind=2):=by rw[ByteArray.toList_eq];exact hk
 show Calls prog 265 #[Pt P 0] w fun e w'=>∃v,e=.returned v/\(uP p.k.at' kind p.k.text r.1).here p.k.at' w' w.heap.size w'.heap.size v/\aC w' P s r.2/\w.grownBy w' (some P);rw[hE];generalize p.next s=q at *;generalize p.k.text=kt at *;generalize p.k.at'=ka at *;have HK:Hid (yh (nU (r.1.here r.1.at'))):=uJ (hx.law _);clear h hq hx hE HE hat hk ok;rcases hk1 with⟨t1,rfl⟩|⟨t1,t2,rfl⟩;all_goals
  go_enter func265,ntmps265;go_wp2_with fail;go_quiet (fail);go_wp2_with fail;refine(HN.out _).mono ?_;rintro e w1 ⟨rfl,p1,g1⟩;have bP:Hid (aC w1 P s q/\w.grownBy w1 (some P)):=⟨p1,g1⟩;clear p1 g1 HN;go_wp2_with fail;refine(HQ.out _ bP.out.1).mono ?_;rintro e w2 ⟨v,rfl,e2,p2,g2⟩;obtain⟨T,A,rfl,hmp,b1,b2,a1⟩:=HX.out.mQ e2;have HP2:Hid (r.1.here r.1.at' w2 w1.heap.size w2.heap.size (.iface T (Pt A 0))/\aC w2 P s r.2/\w1.grownBy w2 (some P)):=⟨e2,p2,g2⟩;have uq:Hid (Calls prog 244 #[Pt A 0] w2 fun e w'=>e=.returned (Im r.1.aj)/\w'=w2):=nZ A 0 _ a1;clear e2 p2 g2 HQ;go_wp2_with fail;refine uq.out.mono ?_;rintro e w3 ⟨rfl,rfl⟩;go_wp2_with fail;refine(uO ka _ [r.1.aj] (PX w3 _ r.1.aj HX.out.aj.1 HX.out.aj.2)).mono ?_;rintro e w4 ⟨rfl,g4⟩;have sO:Hid (w3.grownBy w4 none):=(World.grownBy_alloc w3 _ none).trans g4;clear g4;have HU:Hid (nU (r.1.here r.1.at') w4 w.heap.size w4.heap.size [.iface T (Pt A 0)]/\w.heap.size<=w4.heap.size):=by
   have s1:=bP.out.2.size;have s2:=HP2.out.2.2.size;have s3:=sO.out.size;exact⟨⟨_,rfl,(HX.out.law _).wide _ _ _ _ _ _ ((HX.out.law _).loc _ _ _ _ _ HP2.out.1 (fun b _ hb=>sO.out.block b hb (by simp))) s1 s3⟩,by omega⟩
  have FY:Hid (∀o,aC (w4.alloc o) P s r.2/\w.grownBy (w4.alloc o) (some P)):=fun o=>
   ⟨HP2.out.2.1.grow (sO.out.trans (World.grownBy_alloc w4 o none)),(bP.out.2.trans HP2.out.2.2).trans ((sO.out.trans (World.grownBy_alloc w4 o none)).but _)⟩
  go_wp2_with fail;go_ret;exact⟨_,rfl,EY HK.out HU.out.1 HU.out.2 ka rfl,FY.out _⟩
theorem PK(hs:s.size<=4000)(h:kY s ex d)(n:Nat)(hb:∀p,p.Ok s->Deep (d+1) p->eH 269 [] s p (vO s ex n p)):
 ∀(m:Nat)(p:Ps),p.Ok s->Deep (d+1) p->(s.size:Int)-p.k.at'<=m->eH 265 [] s p (tJ s ex n m p)
 |0,p,ok,hd,hm=>by
  have he:p.k.text=⟨#[]⟩:=by
   have h1:=ok.tok.bd;have h2:=ok.tok.l9;have h3:p.k.text.size=0:=by omega
   have h4:p.k.text.data.size=0:=h3;exact ByteArray.ext (Array.eq_empty_of_size_eq_zero h4)
  exact PI (hb p ok hd) (by unfold Hx.Ps.is;rw[he];rfl) (by unfold Hx.Ps.is;rw[he];rfl)
 |m+1,p,ok,hd,hm=>by
  unfold tJ;have hnx:p.is [45]=true\/p.is [33]=true->1<=p.k.text.size:=by
   intro h;by_cases h0:p.k.text.size=0
   .have h4:p.k.text.data.size=0:=h0;have he:p.k.text=⟨#[]⟩:=ByteArray.ext (Array.eq_empty_of_size_eq_zero h4);unfold Hx.Ps.is at h;rw[he]at h;rcases h with h|h<;>cases h
   .omega
  have hat:=EW ok;split
  .rename_i h1;have g1:=gq ok (kJ (by simp) h1);have:=hnx (Or.inl h1);have hr:=PK hs h n hb m (p.next s) g1.ok (hd.dB g1) (by omega);exact VR hs ok hr (Ig h n m _ g1.ok (hd.dB g1)).2 1 (Or.inl ⟨h1,rfl⟩)
  .rename_i h1;split
   .rename_i h2;have g1:=gq ok (kJ (by simp) h2);have:=hnx (Or.inr h2);have hr:=PK hs h n hb m (p.next s) g1.ok (hd.dB g1) (by omega);exact VR hs ok hr (Ig h n m _ g1.ok (hd.dB g1)).2 2 (Or.inr ⟨by simpa using h1,h2,rfl⟩)
   .rename_i h2;exact PI (hb p ok hd) (by simpa using h1) (by simpa using h2)
end
section
variable {s:ByteArray}{ex:Ps->Ex×Ps}{d:Nat}{p:Ps}{r:Ex×Ps}
theorem WA(hq:eH 265 [] s p r):eH 256 [Im 6] s p r:=by
 intro P w h;have HQ:Hid (Calls prog 265 #[Pt P 0] w fun e w'=>∃v,e=.returned v/\r.1.here r.1.at' w' w.heap.size w'.heap.size v/\aC w' P s r.2/\w.grownBy w' (some P)):=hq P w h;clear h hq;show Calls prog 256 #[Pt P 0,Im 6] w _;go_enter func256,ntmps256;go_wp2_with fail;refine HQ.out.mono ?_;rintro e w2 ⟨v,rfl,h3⟩;have HH:Hid (r.1.here r.1.at' w2 w.heap.size w2.heap.size v/\aC w2 P s r.2/\w.grownBy w2 (some P)):=h3;clear h3 HQ;go_wp2_with fail;go_ret;exact⟨_,rfl,HH.out⟩
structure BU(s:ByteArray)(lower:Ps->Ex×Ps)(of at':Int)(d:Nat)(R:Ex×Ps)(P:Nat)(w wr:World)(v:Value)(g:Nat)(e:Ex)(q:Ps):Prop where
 here:e.here e.at' wr w.heap.size wr.heap.size v
 pr:aC wr P s q
 grown:w.grownBy wr (some P)
 ex:cZ e
 ok:q.Ok s
 deep:Deep d q
 fuel:(s.size:Int)-q.k.at'<=g
 eq:pV s lower of at' g e q=R
theorem Yq{q:Ps}(ok:q.Ok s)(h:(s.size:Int)-q.k.at'<=0):q.k.text=⟨#[]⟩:=by
 have h1:=ok.tok.bd;have h2:=ok.tok.l9;have h3:q.k.text.size=0:=by omega
 have h4:q.k.text.data.size=0:=h3;exact ByteArray.ext (Array.eq_empty_of_size_eq_zero h4)
theorem QH{q:Ps}{t:List UInt8}(ht:t≠[])(h:q.k.text.data.toList=t):1<=q.k.text.size:=by
 by_cases h0:q.k.text.size=0
 .have h4:q.k.text.data.size=0:=h0;have he:q.k.text=⟨#[]⟩:=ByteArray.ext (Array.eq_empty_of_size_eq_zero h4);rw[he]at h;exact absurd h.symm ht
 .omega
theorem adN{q:Ps}{of:Int}(h5:of<=5)(h:lI q.k.text.data.toList=of):1<=q.k.text.size:=by
 refine QH (t:=q.k.text.data.toList) (fun e=>?_) rfl;rw[e]at h;simp[lI]at h;omega
theorem BU.out{lower:Ps->Ex×Ps}{of at':Int}{R:Ex×Ps}{P:Nat}{w wr:World}{v:Value}{g:Nat}{e:Ex}{q:Ps}(h:BU s lower of at' d R P w wr v g e q)(hl:¬lI q.k.text.data.toList=of):R=(e,q):=by
 rw[<-h.eq];cases g with
 |zero=>rfl
 |succ g=>unfold pV;rw[if_neg hl]
theorem BU.more{lower:Ps->Ex×Ps}{of at':Int}{R:Ex×Ps}{P:Nat}{w wr:World}{v:Value}{g:Nat}{e:Ex}{q:Ps}(h:BU s lower of at' d R P w wr v g e q)(h5:of<=5)(hl:lI q.k.text.data.toList=of):
 ∃g',g=g'+1/\(s.size:Int)-(q.next s).k.at'<=g'/\R=if of=2\/of=3 then (qH at' (lX q.k.text.data.toList).2 q.k.text e (lower (q.next s)).1,(lower (q.next s)).2)else pV s lower of at' g' (qH at' (lX q.k.text.data.toList).2 q.k.text e (lower (q.next s)).1) (lower (q.next s)).2:=by
 have h1:=adN h5 hl;have h2:=EW h.ok;cases g with
 |zero=>
  have:=Yq h.ok (by have:=h.fuel;omega);rw[this]at h1;cases h1
 |succ g=>
  refine⟨g,rfl,by have:=h.fuel;omega,?_⟩;rw[<-h.eq]
  conv=>lhs;unfold pV
  rw[if_pos hl]
theorem adA{l r:Ex}(hl:cZ l)(hr:cZ r){w w1 w2 w4:World}{P lo:Nat}{u v:Value}(h1:l.here l.at' w lo w.heap.size u)(hP:P<lo)(g1:w.grownBy w1 (some P))(h2:r.here r.at' w2 w1.heap.size w2.heap.size v)(g2:w1.grownBy w2 (some P))(g4:w2.grownBy w4 none)(hlo:lo<=w.heap.size):
 rX (l.here l.at') (r.here r.at') w4 lo w4.heap.size [u,v]:=by
 have s1:=g1.size;have s2:=g2.size;have s4:=g4.size;refine⟨w1.heap.size,u,v,rfl,by omega,by omega,?_,?_⟩
 .have k1:=hl.aN h1 hP (Nat.le_refl _) (g1.trans (g2.trans (g4.but _)));exact(hl.law _).wide _ _ _ _ _ _ k1 (Nat.le_refl _) s1
 .have k2:=(hr.law _).loc _ _ _ _ _ h2 (fun b _ hb=>g4.block b hb (by simp));exact(hr.law _).wide _ _ _ _ _ _ k2 (Nat.le_refl _) s4
theorem afu(hs:s.size<=4000)(of:Int)(h0:0<=of)(h5:of<=5){lower:Ps->Ex×Ps}(hl:kY s lower d)(hq:∀p,p.Ok s->Deep d p->eH 256 [Im (of+1)] s p (lower p))(n:Nat)
 (ok:p.Ok s)(hd:Deep d p)(hn:(s.size:Int)-p.k.at'<=n):eH 256 [Im of] s p (pV s lower of p.k.at' n (lower p).1 (lower p).2):=by
 intro P w h;obtain⟨g0,x0⟩:=hl p ok hd;have hlt:=h.lt;have HQ:Hid (Calls prog 256 #[Pt P 0,Im (of+1)] w fun e w'=>∃v,e=.returned v/\(lower p).1.here (lower p).1.at' w' w.heap.size w'.heap.size v/\aC w' P s (lower p).2/\w.grownBy w' (some P)):=hq p ok hd P w h;have HR:Hid (∀q,q.Ok s->Deep d q->∀x,aC x P s q->Calls prog 256 #[Pt P 0,Im (of+1)] x fun e w'=>∃v,e=.returned v/\(lower q).1.here (lower q).1.at' w' x.heap.size w'.heap.size v/\aC w' P s (lower q).2/\x.grownBy w' (some P)):=fun q h1 h2 x hx=>hq q h1 h2 P x hx;have HL:Hid (kY s lower d):=hl;have c3:=bK.c3 h;have d6:(of==6)=false:=by simp;omega
 have HI:Hid (∀w' v,(lower p).1.here (lower p).1.at' w' w.heap.size w'.heap.size v->aC w' P s (lower p).2->w.grownBy w' (some P)->BU s lower of p.k.at' d (pV s lower of p.k.at' n (lower p).1 (lower p).2) P w w' v n (lower p).1 (lower p).2):=
  fun w' v a b c=>⟨a,b,c,x0,g0.ok,hd.dB g0,by have:=g0.mono;omega,rfl⟩
 show Calls prog 256 #[Pt P 0,Im of] w fun e w'=>∃v,e=.returned v/\(pV s lower of p.k.at' n (lower p).1 (lower p).2).1.here (pV s lower of p.k.at' n (lower p).1 (lower p).2).1.at' w' w.heap.size w'.heap.size v/\aC w' P s (pV s lower of p.k.at' n (lower p).1 (lower p).2).2/\w.grownBy w' (some P);generalize pV s lower of p.k.at' n (lower p).1 (lower p).2=R at *;generalize lower p=r0 at *;generalize p.k.at'=ka at *;clear h hq g0 x0 hl ok hd hn;go_enter func256,ntmps256;go_wp2_with fail;refine HQ.out.mono ?_;rintro e w2 ⟨v,rfl,h3,p3,q3⟩;have HO:Hid (BU s lower of ka d R P w w2 v n r0.1 r0.2):=HI.out w2 v h3 p3 q3;clear h3 p3 q3 HQ HI;go_wp2_with fail;go_loopg [6] n (fun gg u wr=>Hid (∃e q,BU s lower of ka d R P w wr u gg e q))
 case atStart=>exact⟨_,_,HO.out⟩
 case round=>
  obtain⟨e,q,hI⟩:=hrel.out;clear hrel HO;have c2:=bK.c2 hI.pr;have uZ:Hid (∀x,Calls prog 266 #[.string q.k.text] x fun e w'=>e=.returned (Im (lI q.k.text.data.toList))/\w'=x):=fun x=>Vt _ x;by_cases hlv:lI q.k.text.data.toList=of
  .obtain⟨g',hg',hfu,hR⟩:=hI.more h5 hlv;have gn:=gq hI.ok (V9 h5 hlv);obtain⟨gl,xl⟩:=HL.out _ gn.ok (hI.deep.dB gn);have HN:Hid (Calls prog 236 #[Pt P 0] wr (dP P s wr (.agg #[Im q.k.kind,.string q.k.text,Im q.k.at']) (q.next s))):=qQ hI.pr hI.ok hs;have HR1:Hid (∀x,aC x P s (q.next s)->Calls prog 256 #[Pt P 0,Im (of+1)] x fun e w'=>∃v,e=.returned v/\(lower (q.next s)).1.here (lower (q.next s)).1.at' w' x.heap.size w'.heap.size v/\aC w' P s (lower (q.next s)).2/\x.grownBy w' (some P)):=fun x hx=>HR.out _ gn.ok (hI.deep.dB gn) x hx;have Jj:Hid (∀x,Calls prog 267 #[.string q.k.text] x fun e w'=>e=.returned (.tuple #[Im (lX q.k.text.data.toList).1,Im (lX q.k.text.data.toList).2])/\w'=x):=fun x=>XU _ x;have HX:Hid (cZ e/\cZ (lower (q.next s)).1):=⟨hI.ex,xl⟩;have HF:Hid ((lower (q.next s)).2.Ok s/\Deep d (lower (q.next s)).2/\(s.size:Int)-(lower (q.next s)).2.k.at'<=g'):=⟨gl.ok,hI.deep.dB (gn.trans gl),by have:=gl.mono;omega⟩;have HRR:Hid (R=if of=2\/of=3 then (qH ka (lX q.k.text.data.toList).2 q.k.text e (lower (q.next s)).1,(lower (q.next s)).2)else pV s lower of ka g' (qH ka (lX q.k.text.data.toList).2 q.k.text e (lower (q.next s)).1) (lower (q.next s)).2):=hR;have HH:Hid (e.here e.at' wr w.heap.size wr.heap.size u6/\w.grownBy wr (some P)):=⟨hI.here,hI.grown⟩;obtain⟨T1,A1,hu6,hm1,a1,a2,a3⟩:=hI.ex.mQ hI.here;have tv:(lI q.k.text.data.toList==of)=true:=by simp[hlv]
   have hft:=Gz q.k.kind q.k.at' q.k.text;generalize lower (q.next s)=rr at *;generalize q.next s=q1 at *;generalize lX q.k.text.data.toList=sk at *;generalize lI q.k.text.data.toList=lv at *;generalize q.k.text=kt at *;generalize q.k.kind=kk at *;generalize q.k.at'=kat at *;clear hI gn gl xl hR hfu hlv HR HL;subst hu6;go_wp2_with fail;refine(uZ.out _).mono ?_;rintro e1 w1 ⟨rfl,rfl⟩;go_wp2_with fail;refine HN.out.mono ?_;rintro e1 w3 ⟨rfl,p3,g3⟩;have dG:Hid (aC w3 P s q1/\w1.grownBy w3 (some P)):=⟨p3,g3⟩;clear p3 g3 HN;go_wp2_with fail;refine(HR1.out _ dG.out.1).mono ?_;rintro e1 w4 ⟨v2,rfl,h4,p4,g4⟩;obtain⟨T2,A2,rfl,hm2,b1,b2,b3⟩:=HX.out.2.mQ h4;have fK:Hid (rr.1.here rr.1.at' w4 w3.heap.size w4.heap.size (.iface T2 (Pt A2 0))/\aC w4 P s rr.2/\w3.grownBy w4 (some P)):=⟨h4,p4,g4⟩;clear h4 p4 g4 HR1;go_wp2_with fail;refine(Jj.out _).mono ?_;rintro e1 w5 ⟨rfl,rfl⟩;have a4:w5.cell? (Ad A1 1)=some (Im e.aj):=by
    have hh:=HX.out.1.aN HH.out.1 (by omega) (Nat.le_refl _) (dG.out.2.trans fK.out.2.2);obtain⟨T',A',x1,x2,x3,x4,x5⟩:=HX.out.1.mQ hh;cases x1;exact x5
   have uo:Hid (Calls prog 244 #[Pt A1 0] w5 fun e' w'=>e'=.returned (Im e.aj)/\w'=w5):=nZ A1 0 _ a4;have FZ:Hid (Calls prog 244 #[Pt A2 0] w5 fun e' w'=>e'=.returned (Im rr.1.aj)/\w'=w5):=nZ A2 0 _ b3;go_wp2_with fail;refine uo.out.mono ?_;rintro e1 w6 ⟨rfl,hw6⟩;rw[hw6]at *;clear hw6;go_wp2_with fail;refine FZ.out.mono ?_;rintro e1 w7 ⟨rfl,hw7⟩;rw[hw7]at *;clear hw7;go_wp2_with fail;refine(uO ka _ [e.aj,rr.1.aj] (DU w5 _ e.aj rr.1.aj HX.out.1.aj.1 HX.out.1.aj.2 HX.out.2.aj.1 HX.out.2.aj.2)).mono ?_;rintro e1 w8 ⟨rfl,g8⟩;have wQ:Hid (w5.grownBy w8 none):=(World.grownBy_alloc w5 _ none).trans g8;clear g8;have HFin:Hid (∀o,(qH ka sk.2 kt e rr.1).here ka ((w8.alloc o).alloc (.cells #[Im ka,Im (bD [e.aj,rr.1.aj]),Im sk.2,.string kt,.iface T1 (Pt A1 0),.iface T2 (Pt A2 0)] 376)) w.heap.size ((w8.alloc o).alloc (.cells #[Im ka,Im (bD [e.aj,rr.1.aj]),Im sk.2,.string kt,.iface T1 (Pt A1 0),.iface T2 (Pt A2 0)] 376)).heap.size (.iface 374 (Pt (w8.heap.size+1) 0))/\
    aC ((w8.alloc o).alloc (.cells #[Im ka,Im (bD [e.aj,rr.1.aj]),Im sk.2,.string kt,.iface T1 (Pt A1 0),.iface T2 (Pt A2 0)] 376)) P s rr.2/\w.grownBy ((w8.alloc o).alloc (.cells #[Im ka,Im (bD [e.aj,rr.1.aj]),Im sk.2,.string kt,.iface T1 (Pt A1 0),.iface T2 (Pt A2 0)] 376)) (some P)):=fun o=>by
    generalize ho2:(Obj.cells #[Im ka,Im (bD [e.aj,rr.1.aj]),Im sk.2,.string kt,.iface T1 (Pt A1 0),.iface T2 (Pt A2 0)] 376)=o2;have gg:w5.grownBy (w8.alloc o) none:=wQ.out.trans (World.grownBy_alloc w8 o none);have gf:=gg.trans (World.grownBy_alloc (w8.alloc o) o2 none);have s0:=HH.out.2.size;have s3:=dG.out.2.size;have s4:=fK.out.2.2.size;have s8:=gg.size;have hK:=adA HX.out.1 HX.out.2 HH.out.1 hlt dG.out.2 fK.out.1 fK.out.2.2 gg s0;have hn:=EY (dn:={}) (T':=374) (T:=376) (at':=ka) (aj:=bD [e.aj,rr.1.aj]) (kind:=sk.2) (mk:=fun us=>.string kt::us) (tu (HX.out.1.law _) (HX.out.2.law _)) hK (by omega) ka ho2.symm;rw[kK w8 o]at hn;exact⟨hn,fK.out.2.1.grow gf,(HH.out.2.trans (dG.out.2.trans fK.out.2.2)).trans (gf.but _)⟩
   by_cases hbr:of=2\/of=3
   .have qJ:Hid (R=(qH ka sk.2 kt e rr.1,rr.2)):=by have:=HRR.out;rw[if_pos hbr]at this;exact this
    clear HRR;rcases hbr with rfl|rfl;all_goals
     go_wp2_with fail;go_ret;rw[qJ.out];exact⟨_,rfl,HFin.out _⟩
   .have qJ:Hid (R=pV s lower of ka g' (qH ka sk.2 kt e rr.1) rr.2):=by have:=HRR.out;rw[if_neg hbr]at this;exact this
    have n2:(of==2)=false:=by simp;omega
    have n3:(of==3)=false:=by simp;omega
    clear HRR hbr;go_wp2_with fail;go_roundg g'
    case measure=>omega
    case rel=>
     obtain⟨f1,f2,f3⟩:=HFin.out (Obj.cells #[Im ka,Im (bD [e.aj,rr.1.aj]),Im sk.2] 373);exact⟨_,_,⟨f1,f2,f3,IZ _ _ _ HX.out.1 HX.out.2,HF.out.1,HF.out.2.1,HF.out.2.2,qJ.out.symm⟩⟩
  .have qJ:Hid (R=(e,q)):=hI.out hlv;have HH:Hid (e.here e.at' wr w.heap.size wr.heap.size u6/\aC wr P s q/\w.grownBy wr (some P)):=⟨hI.here,hI.pr,hI.grown⟩;have tv:(lI q.k.text.data.toList==of)=false:=by simp[hlv]
   generalize lI q.k.text.data.toList=lv at *;generalize q.k.text=kt at *;clear hI HR HL hlv;go_wp2_with fail;refine(uZ.out _).mono ?_;rintro e1 w1 ⟨rfl,rfl⟩;go_wp2_with fail;go_ret;rw[qJ.out];exact⟨_,rfl,HH.out⟩
theorem Wx(hs:s.size<=4000)(h:kY s ex d)(n:Nat)(hn:s.size<=n)(hm:∀p,p.Ok s->Deep (d+1) p->eH 265 [] s p (tJ s ex n n p)):
 ∀(l:Nat),l<=6->∀p,p.Ok s->Deep (d+1) p->eH 256 [Im (6-l)] s p (Bl s ex n l p)
 |0,_,p,ok,hd=>WA (hm p ok hd)
 |l+1,hl,p,ok,hd=>by
  have ih:=Wx hs h n hn hm l (by omega);have hq:∀p,p.Ok s->Deep (d+1) p->eH 256 [Im ((5-(l:Int))+1)] s p (Bl s ex n l p):=fun p ok hd=>by
   rw[show(5-(l:Int))+1=6-l by omega];exact ih p ok hd
  have:=afu hs (5-l) (by omega) (by omega) (Lu h n l) hq n ok hd (by have:=ok.tok.l9;omega);rw[show((6:Int)-((l+1:Nat):Int))=5-l by omega];exact this
theorem TP(hq:eH 256 [Im 0] s p r):eH 238 [] s p r:=by
 intro P w h;have HQ:Hid (Calls prog 256 #[Pt P 0,Im 0] w fun e w'=>∃v,e=.returned v/\r.1.here r.1.at' w' w.heap.size w'.heap.size v/\aC w' P s r.2/\w.grownBy w' (some P)):=hq P w h;clear h hq;show Calls prog 238 #[Pt P 0] w _;go_enter func238,ntmps238;go_wp2_with fail;refine HQ.out.mono ?_;rintro e w2 ⟨v,rfl,h3⟩;have HH:Hid (r.1.here r.1.at' w2 w.heap.size w2.heap.size v/\aC w2 P s r.2/\w.grownBy w2 (some P)):=h3;clear h3 HQ;go_wp2_with fail;go_ret;exact⟨_,rfl,HH.out⟩
def Zk(fn:FuncId)(more:List Value)(s:ByteArray)(e:Ex)(p:Ps)(r:Ex×Ps):Prop:=
 ∀(P:Nat)(w:World)(lo:Nat)(u:Value),aC w P s p->P<lo->e.here e.at' w lo w.heap.size u->lo<=w.heap.size->Calls prog fn (Pt P 0::(more++[u])).toArray w fun en w'=>∃v,en=.returned v/\r.1.here r.1.at' w' lo w'.heap.size v/\aC w' P s r.2/\w.grownBy w' (some P)
theorem afa(hs:s.size<=4000)(h:Reader s ex d)(ok:p.Ok s)(hd:Deep (d+1) p)(at':Int){e:Ex}(he:cZ e):Zk 271 [Im at'] s e p (pU s ex at' e p):=by
 intro P w lo u hp hlt hu hlo;have o1:=ok.open' [40];have d1:=hd.open' ok (t:=[40]) (by simp);obtain⟨g1,x1⟩:=h.dB _ o1 d1;have H0:Hid (Calls prog 237 #[Pt P 0,.string ⟨#[40]⟩] w (dP P s w (.tuple #[]) (p.open' s [40]))):=Iu hp ok hs [40];have H1:Hid (∀x,aC x P s (p.open' s [40])->Calls prog 238 #[Pt P 0] x fun e w'=>∃v,e=.returned v/\(ex (p.open' s [40])).1.here (ex (p.open' s [40])).1.at' w' x.heap.size w'.heap.size v/\aC w' P s (ex (p.open' s [40])).2/\x.grownBy w' (some P)):=fun x hx=>h.reads _ o1 d1 P x hx;have H2:Hid (∀x,aC x P s (ex (p.open' s [40])).2->Calls prog 240 #[Pt P 0,.string ⟨#[41]⟩] x (dP P s x (.tuple #[]) ((ex (p.open' s [40])).2.close s [41]))):=fun x hx=>Gv hx g1.ok hs [41];show Calls prog 271 #[Pt P 0,Im at',u] w fun en w'=>∃v,en=.returned v/\(Ae at' e (ex (p.open' s [40])).1).here at' w' lo w'.heap.size v/\aC w' P s ((ex (p.open' s [40])).2.close s [41])/\w.grownBy w' (some P);generalize ex (p.open' s [40])=rr at *;generalize p.open' s [40]=q at *;generalize rr.2.close s [41]=q2 at *;have HX:Hid (cZ e/\cZ rr.1):=⟨he,x1⟩;obtain⟨T1,A1,hu1,hm1,a1,a2,a3⟩:=he.mQ hu;subst hu1;have HU:Hid (e.here e.at' w lo w.heap.size (.iface T1 (Pt A1 0))):=hu;clear hp o1 d1 g1 x1 ok hd h he hu;go_enter func271,ntmps271;go_wp2_with fail;refine H0.out.mono ?_;rintro e1 w1 ⟨rfl,p1,k1⟩;have bP:Hid (aC w1 P s q/\w.grownBy w1 (some P)):=⟨p1,k1⟩;clear p1 k1 H0;go_wp2_with fail;refine(H1.out _ bP.out.1).mono ?_;rintro e1 w2 ⟨v,rfl,e2,p2,k2⟩
 have HP2:Hid (rr.1.here rr.1.at' w2 w1.heap.size w2.heap.size v/\aC w2 P s rr.2/\w1.grownBy w2 (some P)):=⟨e2,p2,k2⟩;clear e2 p2 k2 H1;go_wp2_with fail;refine(H2.out _ HP2.out.2.1).mono ?_;rintro e1 w3 ⟨rfl,p3,k3⟩;have dG:Hid (aC w3 P s q2/\w2.grownBy w3 (some P)):=⟨p3,k3⟩;clear p3 k3 H2;have HV:Hid (rr.1.here rr.1.at' w3 w1.heap.size w3.heap.size v/\e.here e.at' w3 lo w.heap.size (.iface T1 (Pt A1 0))):=by
  have s1:=bP.out.2.size;have s3:=dG.out.2.size;refine⟨(HX.out.2.law _).wide _ _ _ _ _ _ (HX.out.2.aN HP2.out.1 (by omega) (Nat.le_refl _) dG.out.2) (Nat.le_refl _) s3,?_⟩;exact HX.out.1.aN HU.out hlt (Nat.le_refl _) (bP.out.2.trans (HP2.out.2.2.trans dG.out.2))
 obtain⟨T2,A2,hv2,hm2,b1,b2,b3⟩:=HX.out.2.mQ HV.out.1;subst hv2;have a4:w3.cell? (Ad A1 1)=some (Im e.aj):=by
  obtain⟨T',A',x1,x2,x3,x4,x5⟩:=HX.out.1.mQ HV.out.2;cases x1;exact x5
 have uo:Hid (Calls prog 244 #[Pt A1 0] w3 fun e' w'=>e'=.returned (Im e.aj)/\w'=w3):=nZ A1 0 _ a4;have FZ:Hid (Calls prog 244 #[Pt A2 0] w3 fun e' w'=>e'=.returned (Im rr.1.aj)/\w'=w3):=nZ A2 0 _ b3;clear HU;go_wp2_with fail;refine uo.out.mono ?_;rintro e1 w6 ⟨rfl,hw6⟩;rw[hw6]at *;clear hw6;go_wp2_with fail;refine FZ.out.mono ?_;rintro e1 w7 ⟨rfl,hw7⟩;rw[hw7]at *;clear hw7;go_wp2_with fail;refine(uO at' _ [e.aj,rr.1.aj] (DU w3 _ e.aj rr.1.aj HX.out.1.aj.1 HX.out.1.aj.2 HX.out.2.aj.1 HX.out.2.aj.2)).mono ?_;rintro e1 w8 ⟨rfl,g8⟩;have wQ:Hid (w3.grownBy w8 none):=(World.grownBy_alloc w3 _ none).trans g8;clear g8;have HFin:Hid (∀o o2,o2=(Obj.cells #[Im at',Im (bD [e.aj,rr.1.aj]),Im 2,.iface T1 (Pt A1 0),.iface T2 (Pt A2 0)] 400)->(Ae at' e rr.1).here at' ((w8.alloc o).alloc o2) lo ((w8.alloc o).alloc o2).heap.size (.iface 398 (Pt (w8.heap.size+1) 0))/\aC ((w8.alloc o).alloc o2) P s q2/\w.grownBy ((w8.alloc o).alloc o2) (some P)):=fun o o2 ho2=>by
  have gg:w3.grownBy (w8.alloc o) none:=wQ.out.trans (World.grownBy_alloc w8 o none);have gf:=gg.trans (World.grownBy_alloc (w8.alloc o) o2 none);have s1:=bP.out.2.size;have s2:=HP2.out.2.2.size;have s3:=dG.out.2.size;have s8:=gg.size;have hK:rX (e.here e.at') (rr.1.here rr.1.at') (w8.alloc o) lo (w8.alloc o).heap.size [.iface T1 (Pt A1 0),.iface T2 (Pt A2 0)]:=by
   refine⟨w1.heap.size,_,_,rfl,by omega,by omega,?_,?_⟩
   .exact(HX.out.1.law _).wide _ _ _ _ _ _ ((HX.out.1.law _).loc _ _ _ _ _ HV.out.2 (fun b _ hb=>gg.block b (by omega) (by simp))) (Nat.le_refl _) s1
   .exact(HX.out.2.law _).wide _ _ _ _ _ _ ((HX.out.2.law _).loc _ _ _ _ _ HV.out.1 (fun b _ hb=>gg.block b hb (by simp))) (Nat.le_refl _) s8
  have hn:=EY (dn:={}) (T':=398) (T:=400) (at':=at') (aj:=bD [e.aj,rr.1.aj]) (kind:=2) (mk:=fun us=>us) (tu (HX.out.1.law _) (HX.out.2.law _)) hK (by omega) at' ho2;rw[kK w8 o]at hn;exact⟨hn,dG.out.1.grow gf,(bP.out.2.trans (HP2.out.2.2.trans dG.out.2)).trans (gf.but _)⟩
 go_wp2_with fail;go_ret;exact⟨_,rfl,HFin.out _ _ rfl⟩
theorem TT(w:World)(o a b c d:Obj):(((((w.alloc o).alloc a).alloc b).alloc c).alloc d).drew.heap[w.heap.size+1+1+1+1]? =some d/\w.grownBy (((((w.alloc o).alloc a).alloc b).alloc c).alloc d).drew none:=by
 constructor
 .have e:(((((w.alloc o).alloc a).alloc b).alloc c).alloc d).drew.heap=((((w.heap.push o).push a).push b).push c).push d:=rfl;rw[e,Array.getElem?_push,if_pos (by simp)]
 .exact(World.grownBy_alloc w o none).trans ((World.grownBy_alloc _ a none).trans ((World.grownBy_alloc _ b none).trans ((World.grownBy_alloc _ c none).trans ((World.grownBy_alloc _ d none).trans ⟨rfl,rfl,rfl,Nat.le_refl _,fun _ _ _=>rfl⟩))))
structure zl(s:ByteArray)(ex:Ps->Ex×Ps)(at':Int)(d:Nat)(R:Ex×Ps)(P:Nat)(w wr:World)(v:Value)(g:Nat)(e:Ex)(q:Ps):Prop where
 here:e.here e.at' wr w.heap.size wr.heap.size v
 pr:aC wr P s q
 grown:w.grownBy wr (some P)
 vS:cZ e
 ok:q.Ok s
 deep:Deep (d+1) q
 fuel:(s.size:Int)-q.k.at'<=g
 eq:qw s ex at' g e q=R
theorem zl.out{at':Int}{R:Ex×Ps}{P:Nat}{w wr:World}{v:Value}{g:Nat}{e:Ex}{q:Ps}(h:zl s ex at' d R P w wr v g e q)(hl:q.is [46]=false):R=(e,q):=by
 rw[<-h.eq];cases g with
 |zero=>rfl
 |succ g=>unfold qw;rw[if_neg (by rw[hl];decide)]
theorem Di{q:Ps}{t:List UInt8}(ht:t≠[])(h:q.is t=true):1<=q.k.text.size:=QH ht (by simpa [Hx.Ps.is]using h)
theorem zl.more{at':Int}{R:Ex×Ps}{P:Nat}{w wr:World}{v:Value}{g:Nat}{e:Ex}{q:Ps}(h:zl s ex at' d R P w wr v g e q)(hl:q.is [46]=true):
 ∃g',g=g'+1/\(s.size:Int)-(q.next s).k.at'<=g'/\R=(if ((q.next s).name s).1.text.data.toList==[111,110]&&((q.next s).name s).2.is [40]then qw s ex at' g' (pU s ex at' e ((q.next s).name s).2).1 (pU s ex at' e ((q.next s).name s).2).2
   else qw s ex at' g' (tV at' (lU ((q.next s).name s).1.text.data.toList).2 (lU ((q.next s).name s).1.text.data.toList).1 e ((q.next s).name s).1) ((q.next s).name s).2):=by
 have h1:=Di (by simp) hl;have h2:=EW h.ok;cases g with
 |zero=>
  have:=Yq h.ok (by have:=h.fuel;omega);rw[this]at h1;cases h1
 |succ g=>
  refine⟨g,rfl,by have:=h.fuel;omega,?_⟩;rw[<-h.eq]
  conv=>lhs;unfold qw
  rw[if_pos hl]
theorem aav(hs:s.size<=4000)(h:Reader s ex d)(n:Nat)(hn:s.size<=n)(hb:∀p,p.Ok s->Deep (d+1) p->eH 270 [] s p (oL s ex n p))(ok:p.Ok s)(hd:Deep (d+1) p):eH 269 [] s p (vO s ex n p):=by
 intro P w hp;obtain⟨g0,x0⟩:=SL h.dB n ok hd;have hlt:=hp.lt;have HQ:Hid (Calls prog 270 #[Pt P 0] w fun e w'=>∃v,e=.returned v/\(oL s ex n p).1.here (oL s ex n p).1.at' w' w.heap.size w'.heap.size v/\aC w' P s (oL s ex n p).2/\w.grownBy w' (some P)):=hb p ok hd P w hp;have oI:Hid (Reader s ex d):=h;have c3:=bK.c3 hp;have HI:Hid (∀w' v,(oL s ex n p).1.here (oL s ex n p).1.at' w' w.heap.size w'.heap.size v->aC w' P s (oL s ex n p).2->w.grownBy w' (some P)->zl s ex p.k.at' d (vO s ex n p) P w w' v n (oL s ex n p).1 (oL s ex n p).2):=
  fun w' v a b c=>⟨a,b,c,x0,g0.ok,hd.dB g0,by have:=g0.ok.tok.l9;omega,rfl⟩
 show Calls prog 269 #[Pt P 0] w fun e w'=>∃v,e=.returned v/\(vO s ex n p).1.here (vO s ex n p).1.at' w' w.heap.size w'.heap.size v/\aC w' P s (vO s ex n p).2/\w.grownBy w' (some P);generalize vO s ex n p=R at *;generalize oL s ex n p=r0 at *;generalize p.k.at'=ka at *;clear hp hb g0 x0 h ok hd;go_enter func269,ntmps269;go_wp2_with fail;refine HQ.out.mono ?_;rintro e w2 ⟨v,rfl,h3,p3,q3⟩;have HO:Hid (zl s ex ka d R P w w2 v n r0.1 r0.2):=HI.out w2 v h3 p3 q3;clear h3 p3 q3 HQ HI;go_wp2_with fail;go_loopg [4] n (fun gg u wr=>Hid (∃e q,zl s ex ka d R P w wr u gg e q))
 case atStart=>exact⟨_,_,HO.out⟩
 case round=>
  obtain⟨e,q,hI⟩:=hrel.out;clear hrel HO;have uZ:Hid (Calls prog 242 #[Pt P 0,.string ⟨#[46]⟩] wr fun e w'=>e=.returned (.bool (q.is [46]))/\w'=wr):=Dh hI.pr [46];cases hlv:q.is [46]with
  |false=>
   have qJ:Hid (R=(e,q)):=hI.out hlv;have HH:Hid (e.here e.at' wr w.heap.size wr.heap.size u4/\aC wr P s q/\w.grownBy wr (some P)):=⟨hI.here,hI.pr,hI.grown⟩;rw[hlv]at uZ;clear hI hlv oI;go_wp2_with fail;refine uZ.out.mono ?_;rintro e1 w1 ⟨rfl,rfl⟩;go_wp2_with fail;go_ret;rw[qJ.out];exact⟨_,rfl,HH.out⟩
  |true=>
   obtain⟨g',hg',hfu,hR⟩:=hI.more hlv;rw[hlv]at uZ;have gn:=gq hI.ok (kJ (by simp) hlv);have gm:=zO gn.ok;have HN:Hid (Calls prog 236 #[Pt P 0] wr (dP P s wr (lY q.k) (q.next s))):=qQ hI.pr hI.ok hs;have HM:Hid (∀x,aC x P s (q.next s)->Calls prog 232 #[Pt P 0] x (dP P s x (BI ((q.next s).name s).1) ((q.next s).name s).2)):=fun x hx=>EP hx gn.ok hs;have HX:Hid (cZ e):=hI.vS;have HF:Hid (((q.next s).name s).2.Ok s/\Deep (d+1) ((q.next s).name s).2/\(s.size:Int)-((q.next s).name s).2.k.at'<=g'):=⟨gm.ok,hI.deep.dB (gn.trans gm),by have:=gm.mono;omega⟩;have HRR:Hid (R=(if ((q.next s).name s).1.text.data.toList==[111,110]&&((q.next s).name s).2.is [40]then qw s ex ka g' (pU s ex ka e ((q.next s).name s).2).1 (pU s ex ka e ((q.next s).name s).2).2
    else qw s ex ka g' (tV ka (lU ((q.next s).name s).1.text.data.toList).2 (lU ((q.next s).name s).1.text.data.toList).1 e ((q.next s).name s).1) ((q.next s).name s).2)):=hR
   have HH:Hid (e.here e.at' wr w.heap.size wr.heap.size u4/\w.grownBy wr (some P)):=⟨hI.here,hI.grown⟩;obtain⟨T1,A1,hu4,hm1,a1,a2,a3⟩:=hI.vS.mQ hI.here;subst hu4;generalize (q.next s).name s=dq at *;generalize q.next s=q1 at *;obtain⟨⟨dt,da⟩,q2⟩:=dq;clear hI gn gm hR hfu hlv;have HM:Hid (∀x,aC x P s q1->Calls prog 232 #[Pt P 0] x (dP P s x (.agg #[.string dt,Im da]) q2)):=HM.out;simp only at HRR HF;go_wp2_with fail;refine uZ.out.mono ?_;rintro e1 w1 ⟨rfl,rfl⟩;go_wp2_with fail;refine HN.out.mono ?_;rintro e1 w3 ⟨rfl,p3,g3⟩;have dG:Hid (aC w3 P s q1/\w1.grownBy w3 (some P)):=⟨p3,g3⟩;clear p3 g3 HN;go_wp2_with fail;refine(HM.out _ dG.out.1).mono ?_;rintro e1 w4 ⟨rfl,p4,g4⟩;have fK:Hid (aC w4 P s q2/\w1.grownBy w4 (some P)):=⟨p4,dG.out.2.trans g4⟩;clear p4 g4 HM dG;have hgw:(w4.alloc (Obj.cells #[.string dt,Im da] 316)).heap[w4.heap.size]? =some (Obj.cells #[.string dt,Im da] 316):=heap_alloc_new _ _;have t0:(w4.alloc (Obj.cells #[.string dt,Im da] 316)).cell? (Ad w4.heap.size 0)=some (.string dt):=aA hgw;have hA4:A1<w4.heap.size:=by have:=fK.out.2.size;omega
   have a4':w4.cell? (Ad A1 1)=some (Im e.aj):=by
    obtain⟨T',A',x1,x2,x3,x4,x5⟩:=HX.out.mQ (HX.out.aN HH.out.1 hlt (Nat.le_refl _) fK.out.2);cases x1;exact x5
   have a4:(w4.alloc (Obj.cells #[.string dt,Im da] 316)).cell? (Ad A1 1)=some (Im e.aj):=(World.cell?_of_block (a:=(Ad A1 1)) (Below.heap_alloc w4 _ A1 hA4)).trans a4';have a5:(w4.alloc (Obj.cells #[.string dt,Im da] 316)).drew.cell? (Ad A1 1)=some (Im e.aj):=a4;have a6:Hid (∀k,((w4.alloc (Obj.cells #[.string dt,Im da] 316)).drewN k).cell? (Ad A1 1)=some (Im e.aj)):=fun _=>a4;have m1:¬A1=w4.heap.size:=by omega
   have zy:Hid (Calls prog 234 #[Im ka,.slice (some (Ad (w4.heap.size+1) 0)) 1 1] ((w4.alloc (Obj.cells #[.string dt,Im da] 316)).alloc (.cells #[Im e.aj] 3)).drew fun e' w'=>e'=.returned (.agg #[Im ka,Im (bD [e.aj])])/\w'=((((w4.alloc (Obj.cells #[.string dt,Im da] 316)).alloc (.cells #[Im e.aj] 3)).drew.alloc (.cells #[Im ka,Im (bD [e.aj])] 323)).alloc (.cells #[Im 1,Im (dY [e.aj])] 3))):=by
    refine ET ka _ [e.aj] ⟨by simpa using HX.out.aj,by simp,Or.inr ⟨_,_,rfl,fun i y hy=>?_⟩⟩
    match i,hy with
    |0,hy=>
     cases hy;have hh:((w4.alloc (Obj.cells #[.string dt,Im da] 316)).alloc (.cells #[Im e.aj] 3)).drew.heap[w4.heap.size+1]? =some (.cells #[Im e.aj] 3):=by
      rw[<-kK w4 (Obj.cells #[.string dt,Im da] 316)];exact heap_alloc_new _ _
     exact aA hh
   clear hgw a4';have hdt:dt.toList=dt.data.toList:=ByteArray.toList_eq ..;cases hon:(dt.toList==[111,110])with
   |false=>
    have qJ:Hid (R=qw s ex ka g' (tV ka (lU dt.data.toList).2 (lU dt.data.toList).1 e ⟨dt,da⟩) q2):=by
     have:=HRR.out;rw[<-hdt,hon]at this;rw[<-hdt];exact this
    clear HRR hdt;go_wp2_with fail;have F6:Hid (∀x,Calls prog 272 #[.string dt] x fun e w'=>e=.returned (.tuple #[Im (lU dt.data.toList).1,Im (lU dt.data.toList).2])/\w'=x):=fun x=>WX _ x;generalize lU dt.data.toList=pk at *;refine(F6.out _).mono ?_;rintro e1 w5 ⟨rfl,hw5⟩;rw[hw5];clear hw5;have HFin:Hid (∀a b c,∃e' q',zl s ex ka d R P w (((((w4.alloc (Obj.cells #[.string dt,Im da] 316)).alloc a).alloc b).alloc c).alloc (.cells #[Im ka,Im (bD [e.aj]),Im pk.2,Im pk.1,.iface T1 (Pt A1 0),.string dt,Im da] 385)).drew (.iface 383 (Pt (w4.heap.size+1+1+1+1) 0)) g' e' q'):=fun a b c=>by
     obtain⟨h1,h2⟩:=TT w4 (Obj.cells #[.string dt,Im da] 316) a b c (.cells #[Im ka,Im (bD [e.aj]),Im pk.2,Im pk.1,.iface T1 (Pt A1 0),.string dt,Im da] 385);have s4:=fK.out.2.size;have s0:=HH.out.2.size;have hl:=dS h1;have hk:=HX.out.aN HH.out.1 hlt (Nat.le_refl _) (fK.out.2.trans (h2.but _));exact⟨tV ka pk.2 pk.1 e ⟨dt,da⟩,q2,⟨⟨_,_,rfl,by omega,hl,⟨_,rfl,(HX.out.law _).wide _ _ _ _ _ _ hk (Nat.le_refl _) (by omega)⟩,h1⟩,fK.out.1.grow h2,HH.out.2.trans (fK.out.2.trans (h2.but _)),Iz _ _ _ HX.out _,HF.out.1,HF.out.2.1,HF.out.2.2,qJ.out.symm⟩⟩
    go_upto_region 9 with fail;go_region_with (first|(go_at_call 244;refine(nZ A1 0 e.aj (by first|exact a4|exact a5|exact a6.out _|(simp;exact a4))).mono ?_;rintro e w' ⟨rfl,rfl⟩)|(go_at_call 234;refine zy.out.mono ?_;rintro e w' ⟨rfl,rfl⟩));all_goals
     go_wp2_with fail;go_roundg g'
     case measure=>omega
     case rel=>exact HFin.out _ _ _
   |true=>
    have HI2:Hid (Calls prog 242 #[Pt P 0,.string ⟨#[40]⟩] (w4.alloc (Obj.cells #[.string dt,Im da] 316)) fun e' w'=>e'=.returned (.bool (q2.is [40]))/\w'=w4.alloc (Obj.cells #[.string dt,Im da] 316)):=Dh (fK.out.1.grow (World.grownBy_alloc _ _ none)) [40];cases hop:q2.is [40]with
    |false=>
     have qJ:Hid (R=qw s ex ka g' (tV ka (lU dt.data.toList).2 (lU dt.data.toList).1 e ⟨dt,da⟩) q2):=by
      have:=HRR.out;rw[<-hdt,hon,hop]at this;rw[<-hdt];exact this
     rw[hop]at HI2;clear HRR hdt hop;go_wp2_with fail;refine HI2.out.mono ?_;rintro e1 w5 ⟨rfl,hw5⟩;rw[hw5];clear hw5;go_wp2_with fail;have F6:Hid (∀x,Calls prog 272 #[.string dt] x fun e w'=>e=.returned (.tuple #[Im (lU dt.data.toList).1,Im (lU dt.data.toList).2])/\w'=x):=fun x=>WX _ x;generalize lU dt.data.toList=pk at *;refine(F6.out _).mono ?_;rintro e1 w5 ⟨rfl,hw5⟩;rw[hw5];clear hw5;have HFin:Hid (∀a b c,∃e' q',zl s ex ka d R P w (((((w4.alloc (Obj.cells #[.string dt,Im da] 316)).alloc a).alloc b).alloc c).alloc (.cells #[Im ka,Im (bD [e.aj]),Im pk.2,Im pk.1,.iface T1 (Pt A1 0),.string dt,Im da] 385)).drew (.iface 383 (Pt (w4.heap.size+1+1+1+1) 0)) g' e' q'):=fun a b c=>by
      obtain⟨h1,h2⟩:=TT w4 (Obj.cells #[.string dt,Im da] 316) a b c (.cells #[Im ka,Im (bD [e.aj]),Im pk.2,Im pk.1,.iface T1 (Pt A1 0),.string dt,Im da] 385);have s4:=fK.out.2.size;have s0:=HH.out.2.size;have hl:=dS h1;have hk:=HX.out.aN HH.out.1 hlt (Nat.le_refl _) (fK.out.2.trans (h2.but _));exact⟨tV ka pk.2 pk.1 e ⟨dt,da⟩,q2,⟨⟨_,_,rfl,by omega,hl,⟨_,rfl,(HX.out.law _).wide _ _ _ _ _ _ hk (Nat.le_refl _) (by omega)⟩,h1⟩,fK.out.1.grow h2,HH.out.2.trans (fK.out.2.trans (h2.but _)),Iz _ _ _ HX.out _,HF.out.1,HF.out.2.1,HF.out.2.2,qJ.out.symm⟩⟩
     go_upto_region 9 with fail;go_region_with (first|(go_at_call 244;refine(nZ A1 0 e.aj (by first|exact a4|exact a5|exact a6.out _|(simp;exact a4))).mono ?_;rintro e w' ⟨rfl,rfl⟩)|(go_at_call 234;refine zy.out.mono ?_;rintro e w' ⟨rfl,rfl⟩));all_goals
      go_wp2_with fail;go_roundg g'
      case measure=>omega
      case rel=>exact HFin.out _ _ _
    |true=>
     have qJ:Hid (R=qw s ex ka g' (pU s ex ka e q2).1 (pU s ex ka e q2).2):=by
      have:=HRR.out;rw[<-hdt,hon,hop]at this;exact this
     rw[hop]at HI2;obtain⟨go,xo⟩:=Wn oI.out.dB HF.out.1 HF.out.2.1 ka HX.out;have HF2:Hid ((pU s ex ka e q2).2.Ok s/\Deep (d+1) (pU s ex ka e q2).2/\(s.size:Int)-(pU s ex ka e q2).2.k.at'<=g'/\cZ (pU s ex ka e q2).1):=⟨go.ok,HF.out.2.1.dB go,by have:=go.mono;have:=HF.out.2.2;omega,xo⟩;have HOr:Hid (Calls prog 271 #[Pt P 0,Im ka,.iface T1 (Pt A1 0)] (w4.alloc (Obj.cells #[.string dt,Im da] 316)) fun en w'=>∃v,en=.returned v/\(pU s ex ka e q2).1.here (pU s ex ka e q2).1.at' w' w.heap.size w'.heap.size v/\aC w' P s (pU s ex ka e q2).2/\w.grownBy w' (some P)):=by
      have gA:=World.grownBy_alloc w4 (Obj.cells #[.string dt,Im da] 316) none;have CS:=fK.out.2.trans (gA.but (some P));have sz:=CS.size;have s0:=HH.out.2.size;refine(afa hs oI.out HF.out.1 HF.out.2.1 ka HX.out P _ w.heap.size _ (fK.out.1.grow gA) hlt ((HX.out.law _).wide _ _ _ _ _ _ (HX.out.aN HH.out.1 hlt (Nat.le_refl _) CS) (Nat.le_refl _) sz) (by omega)).mono ?_;rintro en w' ⟨v,k1,k2,k3,k4⟩;exact⟨v,k1,k2,k3,HH.out.2.trans (CS.trans k4)⟩
     generalize pU s ex ka e q2=ro at *;clear HRR hdt hop go xo zy;go_wp2_with fail;refine HI2.out.mono ?_;rintro e1 w5 ⟨rfl,hw5⟩;rw[hw5];clear hw5;go_wp2_with fail;refine HOr.out.mono ?_;rintro e1 w6 ⟨v6,rfl,k1,k2,k3⟩;have HK:Hid (ro.1.here ro.1.at' w6 w.heap.size w6.heap.size v6/\aC w6 P s ro.2/\w.grownBy w6 (some P)):=⟨k1,k2,k3⟩;clear k1 k2 k3 HOr HI2;go_wp2_with fail;go_roundg g'
     case measure=>omega
     case rel=>exact⟨_,_,⟨HK.out.1,HK.out.2.1,HK.out.2.2,HF2.out.2.2.2,HF2.out.1,HF2.out.2.1,HF2.out.2.2.1,qJ.out.symm⟩⟩
end
end
end Go.Proofs.YthllhabjfchgiaaGreatDoor
