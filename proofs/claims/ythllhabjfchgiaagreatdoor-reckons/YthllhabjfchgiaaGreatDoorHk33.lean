import Derived.Test.YthllhabjfchgiaaGreatDoorHk32
set_option maxRecDepth 100000
set_option maxHeartbeats 8000000
set_option linter.unusedSimpArgs false
namespace Go.Proofs.YthllhabjfchgiaaGreatDoor
open _root_.Go.Proofs.Tryz
section
open Go.RowKit Hx
attribute [local go_sem ↓] Go.wp_at_zero Go.wp_at_succ
attribute [local go_sem] kP
section
variable {s:ji}{ex':Ps->Ex×Ps}{jM:Ps->List jG×Ps}{d:Nat}{p:Ps}
theorem anh(hs:s.size<=4000)(n:Nat)(h:Reader s ex' d)(hset:∀p,p.Ok s->Deep (d+1) p->yM s p (oD s ex' n p))(hb:DR s jM (d+1))(hblk:∀p,p.Ok s->Deep (d+1) p->GK 241 s p (jM p))(hlen:∀p,(jM p).1.length<=1000000)(ok:p.Ok s)(hd:Deep (d+1) p)(ht:p.is [101,97,99,104]=true):uD 226 s p (Hu s jM ex' n p):=by
 intro P w hp;have hlt:=hp.lt;have g1:=nZ ok (oU (by simp) ht);have gn:=Ej g1.ok;have ge:=yC gn.ok (t:=[105,110]) (by simp);have de:=hd.good ((g1.trans gn).trans ge);obtain⟨gs,xs⟩:=QV h.good n ge.ok de;have HN:Hid (Calls prog 236 #[Pt P 0] w (qO P s w (.agg #[Im p.k.kind,.string p.k.text,Im p.k.at']) (p.next s))):=xw hp ok hs;have HM:Hid (∀x,jQ x P s (p.next s)->Calls prog 232 #[Pt P 0] x (qO P s x (Ru ((p.next s).name s).1) ((p.next s).name s).2)):=λx hx=>JH hx g1.ok hs;have HE:=jA (λx (hx:jQ x P s ((p.next s).name s).2)=>Ef hx gn.ok hs [105,110]);have HS:=jA (λy (hy:jQ y P s (((p.next s).name s).2.expect s [105,110]))=>hset _ ge.ok de P y hy);have HB:Hid (∀q,q.Ok s->Deep (d+1) q->(∀y,jQ y P s q->Calls prog 241 #[Pt P 0] y λe w'=>∃v,e=.returned v/\mW (jM q).1 w' y.heap.size w'.heap.size v/\jQ w' P s (jM q).2/\y.grownBy w' (some P))/\(∀e∈(jM q).1,oI e)/\(jM q).1.length<=1000000):=λq h1 h2=>⟨λy hy=>hblk q h1 h2 P y hy,(hb q h1 h2).2,hlen q⟩;have hfa:=LP p.k.kind p.k.at' p.k.text;have HX:=jA (jd xs (jd gs.ok (de.good gs)))
 show Calls prog 226 #[Pt P 0] w λe w'=>∃v,e=.returned v/\(sG p.k.at' ((p.next s).name s).1 (oD s ex' n (((p.next s).name s).2.expect s [105,110])).1.1 (jM (if (oD s ex' n (((p.next s).name s).2.expect s [105,110])).1.2 then (oD s ex' n (((p.next s).name s).2.expect s [105,110])).2.fail else (oD s ex' n (((p.next s).name s).2.expect s [105,110])).2)).1).here w' w.heap.size w'.heap.size v/\jQ w' P s (jM (if (oD s ex' n (((p.next s).name s).2.expect s [105,110])).1.2 then (oD s ex' n (((p.next s).name s).2.expect s [105,110])).2.fail else (oD s ex' n (((p.next s).name s).2.expect s [105,110])).2)).2/\w.grownBy w' (some P);generalize oD s ex' n (((p.next s).name s).2.expect s [105,110])=sm at *;generalize ((p.next s).name s).2.expect s [105,110]=q3 at *;generalize (p.next s).name s=dq at *;generalize p.next s=q1 at *;generalize p.k.kind=kk at *;generalize p.k.text=kt at *;generalize p.k.at'=ka at *;obtain⟨⟨dt,da⟩,q2⟩:=dq;obtain⟨⟨x,asked⟩,q4⟩:=sm;have HM:Hid (∀x,jQ x P s q1->Calls prog 232 #[Pt P 0] x (qO P s x (.agg #[.string dt,Im da]) q2)):=HM.out;simp only at HE HS HX⊢;clear hp g1 gn ge de gs xs ok hd ht h hb hblk hlen hset;have hq5:Hid ((if asked then q4.fail else q4).Ok s/\Deep (d+1) (if asked then q4.fail else q4)):=by
  cases asked with
  |true=>exact⟨HX.out.2.1.fail,HX.out.2.2.good (Ei HX.out.2.1)⟩
  |false=>exact HX.out.2
 obtain⟨hbk,Jo,hbl⟩:=HB.out _ hq5.out.1 hq5.out.2;have Kz:=jA hbk;have HY:Hid ((∀e∈(jM (if asked then q4.fail else q4)).1,oI e)/\(jM (if asked then q4.fail else q4)).1.length<=1000000):=⟨Jo,hbl⟩;have Y9:Hid (∀y,jQ y P s q4->Calls prog 142 #[Pt P 0] y (qO P s y (.tuple #[]) q4.fail)):=λy hy=>Eh hy;have hqe:Hid ((asked=true->(if asked then q4.fail else q4)=q4.fail)/\(asked=false->(if asked then q4.fail else q4)=q4)):=⟨λh=>by rw[h];rfl,λh=>by rw[h];rfl⟩;generalize jM (if asked then q4.fail else q4)=bk at *;generalize (if asked then q4.fail else q4)=q5 at *;generalize q4.fail=q4f at *;clear hbk Jo hbl HB hq5;go_enter func226,ntmps226;go_wp2_with fail;refine HN.out.mono ?_;rintro e w1 ⟨rfl,p1,k1⟩;have kJ:Hid (jQ w1 P s q1/\w.grownBy w1 (some P)):=⟨p1,k1⟩;clear p1 k1 HN;go_wp2_with fail;refine(HM.out _ kJ.out.1).mono ?_;rintro e w2 ⟨rfl,p2,k2⟩;have HP2:Hid (jQ (w2.alloc (.cells #[.string dt,Im da] 316)) P s q2/\w.grownBy w2 (some P)):=⟨p2.grow (ah _ _ none),kJ.out.2.trans k2⟩;clear p2 k2 HM kJ;go_wp2_with fail;refine(HE.out _ HP2.out.1).mono ?_;rintro e w3 ⟨rfl,p3,k3⟩;have hg3:w3.heap[w2.heap.size]? =some (.cells #[.string dt,Im da] 316):=(k3.block _ (by rw[nX];omega) (by have:=HP2.out.2.size;simp;omega)).trans (aY _ _);have lI:Hid (jQ w3 P s q3/\w.grownBy w3 (some P)/\w3.heap[w2.heap.size]? =some (.cells #[.string dt,Im da] 316)/\w.heap.size<=w2.heap.size):=⟨p3,HP2.out.2.trans (((ah w2 _ none).but _).trans k3),hg3,HP2.out.2.size⟩;clear p3 k3 hg3 HE HP2;go_wp2_with fail
 refine(HS.out _ lI.out.1).mono ?_;rintro e w4 ⟨u,rfl,e4,p4,k4⟩;obtain⟨S,fv,hu,s1,s2,s3⟩:=wR e4;subst hu;have nJ:Hid (oW x w4 w3.heap.size w4.heap.size (Pt S 0)/\jQ w4 P s q4/\w3.grownBy w4 (some P)):=⟨e4,p4,k4⟩;clear e4 p4 k4 s1 s2 s3 HS;have HT:Hid (∀w5,jQ w5 P s q5->w4.grownBy w5 (some P)->∀w6 v6,mW bk.1 w6 w5.heap.size w6.heap.size v6->jQ w6 P s bk.2->w5.grownBy w6 (some P)->w.grownBy w6 (some P)/\w6.heap[w2.heap.size]? =some (.cells #[.string dt,Im da] 316)/\oW x w6 w.heap.size w5.heap.size (Pt S 0)/\w.heap.size<=w5.heap.size/\w5.heap.size<=w6.heap.size):=λw5 h5 g5 w6 v6 l6 h6 g6=>by
  have z3:=lI.out.2.1.size;have z4:=nJ.out.2.2.size;have z5:=g5.size;have zz:=lI.out.2.2.2;have gA:=nJ.out.2.2.trans (g5.trans g6);refine⟨lI.out.2.1.trans gA,(gA.block _ (lY lI.out.2.2.1) (by simp;omega)).trans lI.out.2.2.1,?_,by omega,g6.size⟩;exact HX.out.1.law.wide _ _ _ _ _ _ (HX.out.1.keep nJ.out.1 (by omega) (aj _) (g5.trans g6)) z3 z5
 cases asked with
 |true=>
  have hq:=hqe.out.1 rfl;subst hq;go_wp2_with fail;refine(Y9.out _ nJ.out.2.1).mono ?_;rintro e w5 ⟨rfl,p5,k5⟩;have vG:Hid (jQ w5 P s q5/\w4.grownBy w5 (some P)):=⟨p5,k5⟩;clear p5 k5 Y9;go_wp2_with fail;refine(Kz.out _ vG.out.1).mono ?_;rintro e w6 ⟨v6,rfl,e6,p6,k6⟩;obtain⟨va,vn,vc,hv6⟩:=P9 e6;subst hv6;obtain⟨t1,t2,t3,t4,t5⟩:=HT.out w5 vG.out.1 vG.out.2 w6 _ e6 p6 k6;have Gz:Hid (w.grownBy w6 (some P)/\w6.heap[w2.heap.size]? =some (.cells #[.string dt,Im da] 316)/\oW x w6 w.heap.size w5.heap.size (Pt S 0)/\mW bk.1 w6 w5.heap.size w6.heap.size (.slice va vn vc)/\jQ w6 P s bk.2/\w.heap.size<=w5.heap.size/\w5.heap.size<=w6.heap.size):=⟨t1,t2,t3,e6,p6,t4,t5⟩;obtain⟨S',Dh,hS',_,_,hS6⟩:=wR t3;cases hS';have c1:w6.cell? (Ad S 1)=some (Im x.jw):=jI hS6;have c3:w6.cell? (Ad S 3)=some (Im x.of):=jI hS6;have zA:Hid (Calls prog 244 #[Pt S 0] w6 λe w'=>e=.returned (Im x.jw)/\w'=w6):=uh S 0 _ c1;have EY:Hid (Calls prog 90 #[.slice va vn vc] w6 λe w'=>e=.returned (Im (sumOf bk.1))/\w6.grownBy w' none):=Iw HY.out.1 HY.out.2 (Ic HY.out.1 e6);have hsb:=rH HY.out.1;have DZ:Hid (∀y,w6.grownBy y none->Calls prog 245 #[Pt S 0,Im (sumOf bk.1)] y λe w'=>e=.returned (Im (x.round (sumOf bk.1)))/\y.grownBy w' none):=λy hy=>(QJ (x:=x) (hy.cell c3 (by simp)) (sumOf bk.1) hsb).mono λe w' ⟨h1,h2⟩=>⟨h1,by rw[h2];exact(ah y _ none).trans (ah _ _ none)⟩;clear t1 t2 t3 t4 t5 e6 p6 k6 hS6 c1 c3;go_wp2_with fail;refine zA.out.mono ?_;rintro e w7 ⟨rfl,hw7⟩;rw[hw7];clear hw7 zA;go_wp2_with fail
  refine EY.out.mono ?_;rintro e w8 ⟨rfl,k8⟩;have Bq:Hid (w6.grownBy w8 none):=k8;clear k8 EY;go_wp2_with fail;refine(DZ.out _ Bq.out).mono ?_;rintro e w9 ⟨rfl,k9⟩;have zu:Hid (w6.grownBy w9 none):=Bq.out.trans k9;clear k9 DZ Bq;go_wp2_with fail;refine(zS ka _ [x.jw,x.round (sumOf bk.1)] (Iy w9 _ _ _ HX.out.1.jw.1 HX.out.1.jw.2 (uo hsb).1 (uo hsb).2)).mono ?_;rintro e w10 ⟨rfl,k10⟩;have Bo:Hid (w6.grownBy w10 none):=zu.out.trans ((ah w9 _ none).trans k10);clear k10 zu;have hgb:w10.heap[w2.heap.size]? =some (.cells #[.string dt,Im da] 316):=(Bo.out.block _ (lY Gz.out.2.1) (by simp)).trans Gz.out.2.1;have l3:=lY hgb;have gb0:w10.cell? (Ad w2.heap.size 0)=some (.string dt):=jI hgb;have gb1:w10.cell? (Ad w2.heap.size 1)=some (Im da):=jI hgb;have Qx:w2.heap.size<w10.heap.size+1:=by omega
  have HFin:Hid (∀o o2,o2=Obj.cells #[Im ka,Im (jR [x.jw,x.round (sumOf bk.1)]),.string dt,Im da,Pt S 0,.slice va vn vc] 351->(sG ka ⟨dt,da⟩ x bk.1).here ((w10.alloc o).alloc o2) w.heap.size ((w10.alloc o).alloc o2).heap.size (.iface 349 (Pt (w10.heap.size+1) 0))/\jQ ((w10.alloc o).alloc o2) P s bk.2/\w.grownBy ((w10.alloc o).alloc o2) (some P)):=λo o2 ho=>by
   obtain⟨f1,f2,f3,f4,f5,f6,f7⟩:=Gz.out;have gg:=Bo.out.trans (ah w10 o none);have gf:=gg.trans (ah (w10.alloc o) o2 none);have sg:=gg.size;have ll:=uJ HY.out.1;have hK:xY (oW x) (mW bk.1) (w10.alloc o) w.heap.size (w10.alloc o).heap.size [Pt S 0,.slice va vn vc]:=
    ⟨w5.heap.size,_,_,rfl,f6,by omega,HX.out.1.law.loc _ _ _ _ _ f3 (λb _ hb=>gg.block b (by omega) (by simp)),ll.wide _ _ _ _ _ _ (ll.loc _ _ _ _ _ f4 (λb _ hb=>gg.block b hb (by simp))) (aj _) sg⟩
   have hn:=JM (ds:={}) (T':=349) (T:=351) (at':=ka) (jw:=jR [x.jw,x.round (sumOf bk.1)]) (mk:=λus=>.string dt::Im da::us) (wJ HX.out.1.law ll) hK (by omega) ho;rw[nX w10 o]at hn;exact⟨hn,f5.grow gf,f1.trans (gf.but _)⟩
  clear hgb;go_wp2_with fail;go_ret;exact⟨_,rfl,HFin.out _ _ rfl⟩
 |false=>
  have hq:=hqe.out.2 rfl;subst hq;have vG:Hid (jQ w4 P s q5/\w4.grownBy w4 (some P)):=⟨nJ.out.2.1,aN _ _⟩;go_wp2_with fail;refine(Kz.out _ vG.out.1).mono ?_;rintro e w6 ⟨v6,rfl,e6,p6,k6⟩;obtain⟨va,vn,vc,hv6⟩:=P9 e6;subst hv6;obtain⟨t1,t2,t3,t4,t5⟩:=HT.out w4 vG.out.1 vG.out.2 w6 _ e6 p6 k6;have Gz:Hid (w.grownBy w6 (some P)/\w6.heap[w2.heap.size]? =some (.cells #[.string dt,Im da] 316)/\oW x w6 w.heap.size w4.heap.size (Pt S 0)/\mW bk.1 w6 w4.heap.size w6.heap.size (.slice va vn vc)/\jQ w6 P s bk.2/\w.heap.size<=w4.heap.size/\w4.heap.size<=w6.heap.size):=⟨t1,t2,t3,e6,p6,t4,t5⟩;obtain⟨S',Dh,hS',_,_,hS6⟩:=wR t3;cases hS';have c1:w6.cell? (Ad S 1)=some (Im x.jw):=jI hS6;have c3:w6.cell? (Ad S 3)=some (Im x.of):=jI hS6;have zA:Hid (Calls prog 244 #[Pt S 0] w6 λe w'=>e=.returned (Im x.jw)/\w'=w6):=uh S 0 _ c1;have EY:Hid (Calls prog 90 #[.slice va vn vc] w6 λe w'=>e=.returned (Im (sumOf bk.1))/\w6.grownBy w' none):=Iw HY.out.1 HY.out.2 (Ic HY.out.1 e6);have hsb:=rH HY.out.1;have DZ:Hid (∀y,w6.grownBy y none->Calls prog 245 #[Pt S 0,Im (sumOf bk.1)] y λe w'=>e=.returned (Im (x.round (sumOf bk.1)))/\y.grownBy w' none):=λy hy=>(QJ (x:=x) (hy.cell c3 (by simp)) (sumOf bk.1) hsb).mono λe w' ⟨h1,h2⟩=>⟨h1,by rw[h2];exact(ah y _ none).trans (ah _ _ none)⟩;clear t1 t2 t3 t4 t5 e6 p6 k6 hS6 c1 c3;go_wp2_with fail;refine zA.out.mono ?_;rintro e w7 ⟨rfl,hw7⟩;rw[hw7];clear hw7 zA;go_wp2_with fail;refine EY.out.mono ?_;rintro e w8 ⟨rfl,k8⟩;have Bq:Hid (w6.grownBy w8 none):=k8;clear k8 EY
  go_wp2_with fail;refine(DZ.out _ Bq.out).mono ?_;rintro e w9 ⟨rfl,k9⟩;have zu:Hid (w6.grownBy w9 none):=Bq.out.trans k9;clear k9 DZ Bq;go_wp2_with fail;refine(zS ka _ [x.jw,x.round (sumOf bk.1)] (Iy w9 _ _ _ HX.out.1.jw.1 HX.out.1.jw.2 (uo hsb).1 (uo hsb).2)).mono ?_;rintro e w10 ⟨rfl,k10⟩;have Bo:Hid (w6.grownBy w10 none):=zu.out.trans ((ah w9 _ none).trans k10);clear k10 zu;have hgb:w10.heap[w2.heap.size]? =some (.cells #[.string dt,Im da] 316):=(Bo.out.block _ (lY Gz.out.2.1) (by simp)).trans Gz.out.2.1;have l3:=lY hgb;have gb0:w10.cell? (Ad w2.heap.size 0)=some (.string dt):=jI hgb;have gb1:w10.cell? (Ad w2.heap.size 1)=some (Im da):=jI hgb;have Qx:w2.heap.size<w10.heap.size+1:=by omega
  have HFin:Hid (∀o o2,o2=Obj.cells #[Im ka,Im (jR [x.jw,x.round (sumOf bk.1)]),.string dt,Im da,Pt S 0,.slice va vn vc] 351->(sG ka ⟨dt,da⟩ x bk.1).here ((w10.alloc o).alloc o2) w.heap.size ((w10.alloc o).alloc o2).heap.size (.iface 349 (Pt (w10.heap.size+1) 0))/\jQ ((w10.alloc o).alloc o2) P s bk.2/\w.grownBy ((w10.alloc o).alloc o2) (some P)):=λo o2 ho=>by
   obtain⟨f1,f2,f3,f4,f5,f6,f7⟩:=Gz.out;have gg:=Bo.out.trans (ah w10 o none);have gf:=gg.trans (ah (w10.alloc o) o2 none);have sg:=gg.size;have ll:=uJ HY.out.1;have hK:xY (oW x) (mW bk.1) (w10.alloc o) w.heap.size (w10.alloc o).heap.size [Pt S 0,.slice va vn vc]:=
    ⟨w4.heap.size,_,_,rfl,f6,by omega,HX.out.1.law.loc _ _ _ _ _ f3 (λb _ hb=>gg.block b (by omega) (by simp)),ll.wide _ _ _ _ _ _ (ll.loc _ _ _ _ _ f4 (λb _ hb=>gg.block b hb (by simp))) (aj _) sg⟩
   have hn:=JM (ds:={}) (T':=349) (T:=351) (at':=ka) (jw:=jR [x.jw,x.round (sumOf bk.1)]) (mk:=λus=>.string dt::Im da::us) (wJ HX.out.1.law ll) hK (by omega) ho;rw[nX w10 o]at hn;exact⟨hn,f5.grow gf,f1.trans (gf.but _)⟩
  clear hgb;go_wp2_with fail;go_ret;exact⟨_,rfl,HFin.out _ _ rfl⟩
end
section
variable {s:ji}{ex:Ps->Ex×Ps}{d:Nat}{p:Ps}{r:Ex×Ps}
theorem ajc(hq:mV 270 [] s p r)(hd:r.2.is [46]=false):mV 269 [] s p r:=by
 intro P w h;have HQ:=jA (hq P w h);have c3:=kG.c3 h;have HD:=jA hd;clear h hq hd;go_enter func269,ntmps269;go_wp2_with fail;refine HQ.out.mono ?_;rintro e w2 ⟨v,rfl,h1,p1,q1⟩;have HI:Hid (Calls prog 242 #[Pt P 0,.string ⟨#[46]⟩] w2 λe w'=>e=.returned (.bool false)/\w'=w2):=by
  have:=Ho p1 [46];rw[HD.out]at this;exact this
 have HH:=jA (jd h1 (jd p1 q1));clear h1 p1 q1 HQ;go_wp2_with fail;refine wp_loop_rounds 1 ?_;rw[rounds_succ];go_wp2_with fail;refine HI.out.mono ?_;rintro e w3 ⟨rfl,rfl⟩;go_wp2_with fail;go_ret;exact⟨_,rfl,HH.out⟩
theorem JW(of:Int)(h0:0<=of)(h5:of<=5)(hq:mV 256 [Im (of+1)] s p r)(hl:nO r.2.k.text.data.toList=6):mV 256 [Im of] s p r:=by
 intro P w h;have HQ:=jA (hq P w h);have HL:Hid (∀w,Calls prog 266 #[.string r.2.k.text] w λe w'=>e=.returned (Im 6)/\w'=w):=λw=>by
  have:=ac1 r.2.k.text w;rw[hl]at this;exact this
 have c3:=kG.c3 h;have d6:(of==6)=false:=by simp;omega
 have d7:((6:Int)==of)=false:=by simp;omega
 clear h hq hl;go_enter func256,ntmps256;go_wp2_with fail;refine HQ.out.mono ?_;rintro e w2 ⟨v,rfl,h3,p3,q3⟩;have c2:=kG.c2 p3;have HH:=jA (jd h3 (jd p3 q3));clear h3 p3 q3 HQ;go_wp2_with fail;refine wp_loop_rounds 1 ?_;rw[rounds_succ];go_wp2_with fail;refine(HL.out _).mono ?_;rintro e w3 ⟨rfl,rfl⟩;go_wp2_with fail;go_ret;exact⟨_,rfl,HH.out⟩
theorem aks(hb:o9 p):mV 238 [] s p (rF,p.fail):=by
 have hp:Plain p:=⟨by rw[hb.1];decide,by rw[hb.1];decide,by rw[hb.1];decide⟩;have b0:mV 270 [] s p (rF,p.fail):=ZR hp (hb.is (by simp)) (hb.is (by simp)) (hb.is (by simp)) (hb.is (by simp)) (hb.is (by simp)) (hb.is (by simp)) (hb.is (by simp));have b1:=Vj (ajc b0 ((o9.fail p).is (by simp))) (hb.is (by simp)) (hb.is (by simp));have o6:=aei b1;have hl:nO (rF,p.fail).2.k.text.data.toList=6:=rfl;have o5:=JW 5 (by omega) (by omega) o6 hl;have o4:=JW 4 (by omega) (by omega) o5 hl;have o3:=JW 3 (by omega) (by omega) o4 hl;have o2:=JW 2 (by omega) (by omega) o3 hl;have o1:=JW 1 (by omega) (by omega) o2 hl;have o0:=JW 0 (by omega) (by omega) o1 hl;exact aa1 o0
structure Sv(s:ji):Prop where
 set:∀(d:Nat)(ex:Ps->Ex×Ps),Reader s ex d->∀p,p.Ok s->Deep (d+1) p->yM s p (oD s ex (s.size+1) p)
 FX:∀(d:Nat)(ex:Ps->Ex×Ps),Reader s ex d->∀(x:Sx)(q:Ps)(kind:Int),q.Ok s->Deep (d+1) q->¬o9 q->pq x->CZ 278 kind s x q (FY s ex x kind q)
theorem TB(hs:s.size<=4000)(hS:Sv s):∀(d:Nat),Reader s (kT s d) d
 |0=>⟨GV s 0,λp _ hd=>by
   rcases hd with b|⟨_,h2,h3⟩
   .exact aks b
   .omega⟩
 |d+1=>by
  have ih:=TB hs hS d;refine⟨GV s (d+1),λp ok hd=>?_⟩;have hq:=λp (ok:p.Ok s)(hd:Deep (d+1) p)(_:(setOf p.k.text.data.toList).isSome=true)=>aqj hs ih (s.size+1) (hS.set d _ ih) (hS.FX d _ ih) ok hd;have hb:=λp (ok:p.Ok s)(hd:Deep (d+1) p)=>aiX hs ih (s.size+1) hq ok hd;have hbe:=λp (ok:p.Ok s)(hd:Deep (d+1) p)=>ajd hs ih (s.size+1) (by omega) hb ok hd;have hmi:=λp (ok:p.Ok s)(hd:Deep (d+1) p)=>Vk hs ih.good (s.size+1) hbe (s.size+1) p ok hd (by have:=ok.tok.yR;omega);have h6:=aed hs ih.good (s.size+1) (by omega) hmi 6 (by omega) p ok hd;exact aa1 h6
end
end
section
open Go.RowKit Hx
section
variable {s:ji}{p:Ps}
theorem agj(hs:s.size<=4000)(hS:Sv s):∀(d:Nat)(p:Ps),p.Ok s->Deep d p->GK 141 s p (lZ s d p)
 |0,p,ok,hd=>by
  have h:=agb (s:=s) (st:=λp=>(none,p)) (d:=0) (p:=p) (λq _ _=>je rfl) (λq _ hq=>by
   rcases hq with b|⟨_,h2,h3⟩
   .exact ad9 (by rw[b.1];decide) (by rw[b.1];decide) (b.is (by simp)) (b.is (by simp)) (b.is (by simp)) (b.is (by simp)) (b.is (by simp))
   .omega) s.size (aj _) (by omega) ok hd
  exact h
 |d+1,p,ok,hd=>by
  have ih:=agj hs hS d;have r1:=TB hs hS (d+1);have r0:=TB hs hS d;have gb:=Z9 (Rf s d);have hblk:∀p,p.Ok s->Deep (d+1) p->GK 241 s p (oJ s (lZ s d) p):=λp ok hd=>ajo hs (Rf s d) ih ok hd;have hlen:∀p,(oJ s (lZ s d) p).1.length<=1000000:=λp=>by have:=ajn s d p;omega
  have hst:=agf (s.size+1) (GV s (d+1)) (GV s d) gb;exact agb hst (λq oq dq=>asV (s.size+1) (λ_=>asy hs r1 oq dq) (λk=>atd hs r1 oq dq k) (λt=>anY hs r1 oq dq t) (λt=>ap0 hs r0 oq dq t) (λt=>arb hs oq t)
   (λt=>ajK hs r1 gb hblk hlen oq dq t) (λt=>anh hs (s.size+1) r0 (hS.set d _ r0) gb hblk hlen oq dq t)) s.size (aj _) (by omega) ok hd
end
end
namespace Hx
def xE(s:ji):Ps:=⟨scan s 0,0,0,0⟩
def FH(q:Ps):Ps:=if q.k.kind=1 then q else q.fail
def xB(r:List jG×Ps):List jG×Int×Int:=if (FH r.2).en=0 then (r.1,0,0)else ([],(FH r.2).en,(FH r.2).ea)
theorem QB(s:ji):(xE s).Ok s:=⟨(WG s 0 (bD _)).1,by unfold jJ xE;simp,afC s 0 (bD _)⟩
theorem aeP(s:ji):Deep 21 (xE s):=je (by unfold xE;simp)
end Hx
section
open Go.RowKit Hx
attribute [local go_sem ↓] Go.wp_at_zero Go.wp_at_succ
attribute [local go_sem] kP
theorem Qz(tmps:Array jm)(w:jk)(g:Nat)(v:jm)(a b:Int)(h2:tmps[2]? =some v)(h3:tmps[3]? =some (Pt g 0))(h:w.heap[g]? =some (.cells #[Im a,Im b] 107)):
 (results Tryz.f88 tmps).run prog w=.ok (.tuple #[v,.agg #[Im a,Im b]]) w:=by
 have q0:w.cell? (Ad g 0)=some (Im a):=jI h;have q1:w.cell? (Ad g 1)=some (Im b):=jI h;simp[results,Tryz.results88,go_sem,h2,h3,q0,q1]
end
end Go.Proofs.YthllhabjfchgiaaGreatDoor
