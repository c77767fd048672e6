import Derived.Test.YthllhabjfchgiaaGreatDoorHz24
set_option maxRecDepth 100000
set_option maxHeartbeats 8000000
namespace Go.Proofs.YthllhabjfchgiaaGreatDoor
open _root_.Go.Proofs.Tryz
section
open Go.RowKit Hx
attribute [local go_sem ↓] Go.wp_at_zero Go.wp_at_succ
attribute [local go_sem] bT
section
variable {s:ByteArray}{ex:Ps->Ex×Ps}{d:Nat}{p:Ps}{r:Ex×Ps}{x:Sx}
def sV(s:ByteArray)(p:Ps)(r:(Sx×Bool)×Ps):Prop:=
 ∀(P:Nat)(w:World),aC w P s p->Calls prog 243 #[Pt P 0] w fun e w'=>∃u,e=.returned (.tuple #[u,.bool r.1.2])/\dF r.1.1 w' w.heap.size w'.heap.size u/\aC w' P s r.2/\w.grownBy w' (some P)
theorem agp{x:Sx}{q:Ps}(hset:sV s p ((x,true),q))(tp:q.is [99,111,117,110,116]=true)(hx:fM x)(hq:yu 277 1 s x q r):eH 275 [] s p r:=by
 intro P w h;have hlt:=h.lt;have HS:Hid (Calls prog 243 #[Pt P 0] w fun e w'=>∃u,e=.returned (.tuple #[u,.bool true])/\dF x w' w.heap.size w'.heap.size u/\aC w' P s q/\w.grownBy w' (some P)):=hset P w h;have tp:=dR tp;have HX:Hid (fM x):=hx;have HQ:Hid (∀(y:World)(u:Value),aC y P s q->dF x y w.heap.size y.heap.size u->w.heap.size<=y.heap.size->Calls prog 277 #[Pt P 0,u,Im 1] y fun en w'=>∃v,en=.returned v/\r.1.here r.1.at' w' w.heap.size w'.heap.size v/\aC w' P s r.2/\y.grownBy w' (some P)):=fun y u h1 h2 h3=>hq P y w.heap.size u h1 hlt h2 h3;clear h hset hq hx;show Calls prog 275 #[Pt P 0] w fun e w'=>∃v,e=.returned v/\r.1.here r.1.at' w' w.heap.size w'.heap.size v/\aC w' P s r.2/\w.grownBy w' (some P);go_enter func275,ntmps275;go_wp2_with fail;refine HS.out.mono ?_;rintro e w1 ⟨u,rfl,e1,p1,g1⟩;obtain⟨S,fv,hu,s1,s2,s3⟩:=oG e1;subst hu;have c2:=bK.c2 p1;have c3:w1.cell? (Ad S 3)=some (Im x.of):=aA s3;have bP:Hid (dF x w1 w.heap.size w1.heap.size (Pt S 0)/\aC w1 P s q/\w.grownBy w1 (some P)):=⟨e1,p1,g1⟩;clear e1 p1 g1 s3 HS;go_wp2_with fail;refine(HQ.out _ _ bP.out.2.1 bP.out.1 bP.out.2.2.size).mono ?_;rintro e w2 ⟨v,rfl,h1,h2,h3⟩;have HH:Hid (r.1.here r.1.at' w2 w.heap.size w2.heap.size v/\aC w2 P s r.2/\w.grownBy w2 (some P)):=⟨h1,h2,bP.out.2.2.trans h3⟩;clear h1 h2 h3 HQ;go_wp2_with fail;go_ret;exact⟨_,rfl,HH.out⟩
theorem agq{x:Sx}{q:Ps}(hset:sV s p ((x,true),q))(t0:q.is [99,111,117,110,116]=false)(tp:q.is [102,105,114,115,116]=true)(hx:fM x)(hq:yu 277 x.of s x q r):eH 275 [] s p r:=by
 intro P w h;have hlt:=h.lt;have HS:Hid (Calls prog 243 #[Pt P 0] w fun e w'=>∃u,e=.returned (.tuple #[u,.bool true])/\dF x w' w.heap.size w'.heap.size u/\aC w' P s q/\w.grownBy w' (some P)):=hset P w h;have t0:=dR t0;have tp:=dR tp;have HX:Hid (fM x):=hx;have HQ:Hid (∀(y:World)(u:Value),aC y P s q->dF x y w.heap.size y.heap.size u->w.heap.size<=y.heap.size->Calls prog 277 #[Pt P 0,u,Im x.of] y fun en w'=>∃v,en=.returned v/\r.1.here r.1.at' w' w.heap.size w'.heap.size v/\aC w' P s r.2/\y.grownBy w' (some P)):=fun y u h1 h2 h3=>hq P y w.heap.size u h1 hlt h2 h3;clear h hset hq hx;show Calls prog 275 #[Pt P 0] w fun e w'=>∃v,e=.returned v/\r.1.here r.1.at' w' w.heap.size w'.heap.size v/\aC w' P s r.2/\w.grownBy w' (some P);go_enter func275,ntmps275;go_wp2_with fail;refine HS.out.mono ?_;rintro e w1 ⟨u,rfl,e1,p1,g1⟩;obtain⟨S,fv,hu,s1,s2,s3⟩:=oG e1;subst hu;have c2:=bK.c2 p1;have c3:w1.cell? (Ad S 3)=some (Im x.of):=aA s3;have bP:Hid (dF x w1 w.heap.size w1.heap.size (Pt S 0)/\aC w1 P s q/\w.grownBy w1 (some P)):=⟨e1,p1,g1⟩;clear e1 p1 g1 s3 HS;go_wp2_with fail;refine(HQ.out _ _ bP.out.2.1 bP.out.1 bP.out.2.2.size).mono ?_;rintro e w2 ⟨v,rfl,h1,h2,h3⟩;have HH:Hid (r.1.here r.1.at' w2 w.heap.size w2.heap.size v/\aC w2 P s r.2/\w.grownBy w2 (some P)):=⟨h1,h2,bP.out.2.2.trans h3⟩;clear h1 h2 h3 HQ;go_wp2_with fail;go_ret;exact⟨_,rfl,HH.out⟩
theorem agt{x:Sx}{q:Ps}(hset:sV s p ((x,true),q))(t0:q.is [99,111,117,110,116]=false)(t1:q.is [102,105,114,115,116]=false)(tp:q.is [109,105,110]=true)(hx:fM x)(hq:yu 278 x.of s x q r):eH 275 [] s p r:=by
 intro P w h;have hlt:=h.lt;have HS:Hid (Calls prog 243 #[Pt P 0] w fun e w'=>∃u,e=.returned (.tuple #[u,.bool true])/\dF x w' w.heap.size w'.heap.size u/\aC w' P s q/\w.grownBy w' (some P)):=hset P w h;have t0:=dR t0;have t1:=dR t1;have tp:=dR tp;have HX:Hid (fM x):=hx;have HQ:Hid (∀(y:World)(u:Value),aC y P s q->dF x y w.heap.size y.heap.size u->w.heap.size<=y.heap.size->Calls prog 278 #[Pt P 0,u,Im x.of] y fun en w'=>∃v,en=.returned v/\r.1.here r.1.at' w' w.heap.size w'.heap.size v/\aC w' P s r.2/\y.grownBy w' (some P)):=fun y u h1 h2 h3=>hq P y w.heap.size u h1 hlt h2 h3;clear h hset hq hx;show Calls prog 275 #[Pt P 0] w fun e w'=>∃v,e=.returned v/\r.1.here r.1.at' w' w.heap.size w'.heap.size v/\aC w' P s r.2/\w.grownBy w' (some P);go_enter func275,ntmps275;go_wp2_with fail;refine HS.out.mono ?_;rintro e w1 ⟨u,rfl,e1,p1,g1⟩;obtain⟨S,fv,hu,s1,s2,s3⟩:=oG e1;subst hu;have c2:=bK.c2 p1;have c3:w1.cell? (Ad S 3)=some (Im x.of):=aA s3;have bP:Hid (dF x w1 w.heap.size w1.heap.size (Pt S 0)/\aC w1 P s q/\w.grownBy w1 (some P)):=⟨e1,p1,g1⟩;clear e1 p1 g1 s3 HS;go_wp2_with fail;refine(HQ.out _ _ bP.out.2.1 bP.out.1 bP.out.2.2.size).mono ?_;rintro e w2 ⟨v,rfl,h1,h2,h3⟩;have HH:Hid (r.1.here r.1.at' w2 w.heap.size w2.heap.size v/\aC w2 P s r.2/\w.grownBy w2 (some P)):=⟨h1,h2,bP.out.2.2.trans h3⟩;clear h1 h2 h3 HQ;go_wp2_with fail;go_ret;exact⟨_,rfl,HH.out⟩
theorem ags{x:Sx}{q:Ps}(hset:sV s p ((x,true),q))(t0:q.is [99,111,117,110,116]=false)(t1:q.is [102,105,114,115,116]=false)(t2:q.is [109,105,110]=false)(tp:q.is [109,97,120]=true)(hx:fM x)(hq:yu 278 x.of s x q r):eH 275 [] s p r:=by
 intro P w h;have hlt:=h.lt;have HS:Hid (Calls prog 243 #[Pt P 0] w fun e w'=>∃u,e=.returned (.tuple #[u,.bool true])/\dF x w' w.heap.size w'.heap.size u/\aC w' P s q/\w.grownBy w' (some P)):=hset P w h;have t0:=dR t0;have t1:=dR t1;have t2:=dR t2;have tp:=dR tp;have HX:Hid (fM x):=hx;have HQ:Hid (∀(y:World)(u:Value),aC y P s q->dF x y w.heap.size y.heap.size u->w.heap.size<=y.heap.size->Calls prog 278 #[Pt P 0,u,Im x.of] y fun en w'=>∃v,en=.returned v/\r.1.here r.1.at' w' w.heap.size w'.heap.size v/\aC w' P s r.2/\y.grownBy w' (some P)):=fun y u h1 h2 h3=>hq P y w.heap.size u h1 hlt h2 h3;clear h hset hq hx;show Calls prog 275 #[Pt P 0] w fun e w'=>∃v,e=.returned v/\r.1.here r.1.at' w' w.heap.size w'.heap.size v/\aC w' P s r.2/\w.grownBy w' (some P);go_enter func275,ntmps275;go_wp2_with fail;refine HS.out.mono ?_;rintro e w1 ⟨u,rfl,e1,p1,g1⟩;obtain⟨S,fv,hu,s1,s2,s3⟩:=oG e1;subst hu;have c2:=bK.c2 p1;have c3:w1.cell? (Ad S 3)=some (Im x.of):=aA s3;have bP:Hid (dF x w1 w.heap.size w1.heap.size (Pt S 0)/\aC w1 P s q/\w.grownBy w1 (some P)):=⟨e1,p1,g1⟩;clear e1 p1 g1 s3 HS;go_wp2_with fail;refine(HQ.out _ _ bP.out.2.1 bP.out.1 bP.out.2.2.size).mono ?_;rintro e w2 ⟨v,rfl,h1,h2,h3⟩;have HH:Hid (r.1.here r.1.at' w2 w.heap.size w2.heap.size v/\aC w2 P s r.2/\w.grownBy w2 (some P)):=⟨h1,h2,bP.out.2.2.trans h3⟩;clear h1 h2 h3 HQ;go_wp2_with fail;go_ret;exact⟨_,rfl,HH.out⟩
theorem agx{x:Sx}{q:Ps}(hset:sV s p ((x,true),q))(t0:q.is [99,111,117,110,116]=false)(t1:q.is [102,105,114,115,116]=false)(t2:q.is [109,105,110]=false)(t3:q.is [109,97,120]=false)(tp:q.is [115,117,109]=true)(hx:fM x)(hq:yu 278 1 s x q r):eH 275 [] s p r:=by
 intro P w h;have hlt:=h.lt;have HS:Hid (Calls prog 243 #[Pt P 0] w fun e w'=>∃u,e=.returned (.tuple #[u,.bool true])/\dF x w' w.heap.size w'.heap.size u/\aC w' P s q/\w.grownBy w' (some P)):=hset P w h;have t0:=dR t0;have t1:=dR t1;have t2:=dR t2;have t3:=dR t3;have tp:=dR tp;have HX:Hid (fM x):=hx;have HQ:Hid (∀(y:World)(u:Value),aC y P s q->dF x y w.heap.size y.heap.size u->w.heap.size<=y.heap.size->Calls prog 278 #[Pt P 0,u,Im 1] y fun en w'=>∃v,en=.returned v/\r.1.here r.1.at' w' w.heap.size w'.heap.size v/\aC w' P s r.2/\y.grownBy w' (some P)):=fun y u h1 h2 h3=>hq P y w.heap.size u h1 hlt h2 h3;clear h hset hq hx;show Calls prog 275 #[Pt P 0] w fun e w'=>∃v,e=.returned v/\r.1.here r.1.at' w' w.heap.size w'.heap.size v/\aC w' P s r.2/\w.grownBy w' (some P);go_enter func275,ntmps275;go_wp2_with fail;refine HS.out.mono ?_;rintro e w1 ⟨u,rfl,e1,p1,g1⟩;obtain⟨S,fv,hu,s1,s2,s3⟩:=oG e1;subst hu;have c2:=bK.c2 p1;have c3:w1.cell? (Ad S 3)=some (Im x.of):=aA s3;have bP:Hid (dF x w1 w.heap.size w1.heap.size (Pt S 0)/\aC w1 P s q/\w.grownBy w1 (some P)):=⟨e1,p1,g1⟩;clear e1 p1 g1 s3 HS;go_wp2_with fail;refine(HQ.out _ _ bP.out.2.1 bP.out.1 bP.out.2.2.size).mono ?_;rintro e w2 ⟨v,rfl,h1,h2,h3⟩;have HH:Hid (r.1.here r.1.at' w2 w.heap.size w2.heap.size v/\aC w2 P s r.2/\w.grownBy w2 (some P)):=⟨h1,h2,bP.out.2.2.trans h3⟩;clear h1 h2 h3 HQ;go_wp2_with fail;go_ret;exact⟨_,rfl,HH.out⟩
theorem agn{x:Sx}{q:Ps}(hset:sV s p ((x,true),q))(t0:q.is [99,111,117,110,116]=false)(t1:q.is [102,105,114,115,116]=false)(t2:q.is [109,105,110]=false)(t3:q.is [109,97,120]=false)(t4:q.is [115,117,109]=false)(tp:q.is [97,110,121]=true)(hx:fM x)(hq:yu 278 2 s x q r):eH 275 [] s p r:=by
 intro P w h;have hlt:=h.lt;have HS:Hid (Calls prog 243 #[Pt P 0] w fun e w'=>∃u,e=.returned (.tuple #[u,.bool true])/\dF x w' w.heap.size w'.heap.size u/\aC w' P s q/\w.grownBy w' (some P)):=hset P w h;have t0:=dR t0;have t1:=dR t1;have t2:=dR t2;have t3:=dR t3;have t4:=dR t4;have tp:=dR tp;have HX:Hid (fM x):=hx;have HQ:Hid (∀(y:World)(u:Value),aC y P s q->dF x y w.heap.size y.heap.size u->w.heap.size<=y.heap.size->Calls prog 278 #[Pt P 0,u,Im 2] y fun en w'=>∃v,en=.returned v/\r.1.here r.1.at' w' w.heap.size w'.heap.size v/\aC w' P s r.2/\y.grownBy w' (some P)):=fun y u h1 h2 h3=>hq P y w.heap.size u h1 hlt h2 h3;clear h hset hq hx;show Calls prog 275 #[Pt P 0] w fun e w'=>∃v,e=.returned v/\r.1.here r.1.at' w' w.heap.size w'.heap.size v/\aC w' P s r.2/\w.grownBy w' (some P);go_enter func275,ntmps275;go_wp2_with fail;refine HS.out.mono ?_;rintro e w1 ⟨u,rfl,e1,p1,g1⟩;obtain⟨S,fv,hu,s1,s2,s3⟩:=oG e1;subst hu;have c2:=bK.c2 p1;have c3:w1.cell? (Ad S 3)=some (Im x.of):=aA s3;have bP:Hid (dF x w1 w.heap.size w1.heap.size (Pt S 0)/\aC w1 P s q/\w.grownBy w1 (some P)):=⟨e1,p1,g1⟩;clear e1 p1 g1 s3 HS;go_wp2_with fail;refine(HQ.out _ _ bP.out.2.1 bP.out.1 bP.out.2.2.size).mono ?_;rintro e w2 ⟨v,rfl,h1,h2,h3⟩;have HH:Hid (r.1.here r.1.at' w2 w.heap.size w2.heap.size v/\aC w2 P s r.2/\w.grownBy w2 (some P)):=⟨h1,h2,bP.out.2.2.trans h3⟩;clear h1 h2 h3 HQ;go_wp2_with fail;go_ret;exact⟨_,rfl,HH.out⟩
theorem agv{x:Sx}{q:Ps}(hset:sV s p ((x,true),q))(t0:q.is [99,111,117,110,116]=false)(t1:q.is [102,105,114,115,116]=false)(t2:q.is [109,105,110]=false)(t3:q.is [109,97,120]=false)(t4:q.is [115,117,109]=false)(t5:q.is [97,110,121]=false):eH 275 [] s p (qC,q.fail):=by
 intro P w h;have HS:Hid (Calls prog 243 #[Pt P 0] w fun e w'=>∃u,e=.returned (.tuple #[u,.bool true])/\dF x w' w.heap.size w'.heap.size u/\aC w' P s q/\w.grownBy w' (some P)):=hset P w h;have t0:=dR t0;have t1:=dR t1;have t2:=dR t2;have t3:=dR t3;have t4:=dR t4;have t5:=dR t5;clear h hset;show Calls prog 275 #[Pt P 0] w fun e w'=>∃v,e=.returned v/\qC.here 0 w' w.heap.size w'.heap.size v/\aC w' P s q.fail/\w.grownBy w' (some P);go_enter func275,ntmps275;go_wp2_with fail;refine HS.out.mono ?_;rintro e w1 ⟨u,rfl,e1,p1,g1⟩;obtain⟨S,fv,hu,s1,s2,s3⟩:=oG e1;subst hu;have c2:=bK.c2 p1;have bP:Hid (aC w1 P s q/\w.grownBy w1 (some P)):=⟨p1,g1⟩;clear e1 p1 g1 s3 HS;go_wp2_with fail;refine(zL bP.out.1).mono ?_;rintro e w2 ⟨rfl,h2,h3⟩;have HH:Hid (aC w2 P s q.fail/\w.grownBy w2 (some P)):=⟨h2,bP.out.2.trans h3⟩;clear h2 h3 bP;go_wp2_with fail;go_ret;exact⟨_,rfl,EM HH.out.2.size 0 rfl,HH.out.1.grow (World.grownBy_alloc _ _ none),HH.out.2.trans ((World.grownBy_alloc _ _ none).but _)⟩
theorem agu{x:Sx}{q:Ps}(hset:sV s p ((x,false),q)):eH 275 [] s p (qC,q.fail):=by
 intro P w h;have HS:Hid (Calls prog 243 #[Pt P 0] w fun e w'=>∃u,e=.returned (.tuple #[u,.bool false])/\dF x w' w.heap.size w'.heap.size u/\aC w' P s q/\w.grownBy w' (some P)):=hset P w h;clear h hset;show Calls prog 275 #[Pt P 0] w fun e w'=>∃v,e=.returned v/\qC.here 0 w' w.heap.size w'.heap.size v/\aC w' P s q.fail/\w.grownBy w' (some P);go_enter func275,ntmps275;go_wp2_with fail;refine HS.out.mono ?_;rintro e w1 ⟨u,rfl,e1,p1,g1⟩;obtain⟨S,fv,hu,s1,s2,s3⟩:=oG e1;subst hu;have c2:=bK.c2 p1;have bP:Hid (aC w1 P s q/\w.grownBy w1 (some P)):=⟨p1,g1⟩;clear e1 p1 g1 s3 HS;go_wp2_with fail;refine(zL bP.out.1).mono ?_;rintro e w2 ⟨rfl,h2,h3⟩;have HH:Hid (aC w2 P s q.fail/\w.grownBy w2 (some P)):=⟨h2,bP.out.2.trans h3⟩;clear h2 h3 bP;go_wp2_with fail;go_ret;exact⟨_,rfl,EM HH.out.2.size 0 rfl,HH.out.1.grow (World.grownBy_alloc _ _ none),HH.out.2.trans ((World.grownBy_alloc _ _ none).but _)⟩
theorem agw(hs:s.size<=4000)(h:Reader s ex d)(n:Nat)(hset:∀p,p.Ok s->Deep (d+1) p->sV s p (kR s ex n p))(hm:∀(x:Sx)(q:Ps)(kind:Int),q.Ok s->Deep (d+1) q->¬kL q->fM x->yu 278 kind s x q (Bg s ex x kind q))
 (ok:p.Ok s)(hd:Deep (d+1) p):eH 275 [] s p (yS s ex n p):=by
 have h1:=hset p ok hd;obtain⟨g1,e1⟩:=L8 h.dB n ok hd;unfold yS;generalize kR s ex n p=sm at *;obtain⟨⟨x,b⟩,q⟩:=sm;simp only at g1 e1⊢;have Kv:=hd.dB g1;cases b with
 |false=>exact agu h1
 |true=>
  simp only[if_true];unfold Fj;cases t0:q.is [99,111,117,110,116]with
  |true=>exact agp h1 t0 e1 (SG hs g1.ok e1 1)
  |false=>
  cases t1:q.is [102,105,114,115,116]with
  |true=>exact agq h1 t0 t1 e1 (SG hs g1.ok e1 x.of)
  |false=>
  cases t2:q.is [109,105,110]with
  |true=>exact agt h1 t0 t1 t2 e1 (hm x q x.of g1.ok Kv (kJ (by simp) t2) e1)
  |false=>
  cases t3:q.is [109,97,120]with
  |true=>exact ags h1 t0 t1 t2 t3 e1 (hm x q x.of g1.ok Kv (kJ (by simp) t3) e1)
  |false=>
  cases t4:q.is [115,117,109]with
  |true=>exact agx h1 t0 t1 t2 t3 t4 e1 (hm x q 1 g1.ok Kv (kJ (by simp) t4) e1)
  |false=>
  cases t5:q.is [97,110,121]with
  |true=>exact agn h1 t0 t1 t2 t3 t4 t5 e1 (hm x q 2 g1.ok Kv (kJ (by simp) t5) e1)
  |false=>exact agv h1 t0 t1 t2 t3 t4 t5
end
end
namespace Hx
open Go.RowKit
structure bI where
 aj:Int
 here:rM
 does:Ds
def nJ(g:Nat):List bI->World->Nat->Nat->List Value->Prop
 |[],_,_,_,us=>us=[]
 |b::bs,w,lo,hi,us=>∃l m u us',us=u::us'/\lo<=l/\l<=m/\m<=hi/\(g<l\/m<=g)/\b.here w l m u/\nJ g bs w m hi us'
def Vu(T:TypeId)(l:List bI):rM:=fun w lo hi v=>
 (l=[]/\v=Nl)\/
 ∃g cap us arr,v=.slice (some (Ad g 0)) l.length cap/\lo<=g/\g<hi/\nJ g l w lo hi us/\w.heap[g]? =some (.cells arr T)/\∀(j:Nat)(v:Value),us[j]? =some v->arr[j]? =some v
theorem MG{g:Nat}:∀{bs:List bI}{w w':World}{lo hi:Nat}{us:List Value},(∀b∈bs,Lawful b.here)->nJ g bs w lo hi us->(∀b,lo<=b->b<hi->w'.heap[b]? =w.heap[b]?)->nJ g bs w' lo hi us
 |[],_,_,_,_,_,_,h,_=>h
 |b::bs,_,_,_,_,_,hl,⟨l,m,u,us',h0,h1,h2,h3,h4,h5,h6⟩,hk=>
  ⟨l,m,u,us',h0,h1,h2,h3,h4,(hl b (List.mem_cons_self ..)).loc _ _ _ _ _ h5 (fun k k1 k2=>hk k (by omega) (by omega)),MG (fun c hc=>hl c (List.mem_cons_of_mem _ hc)) h6 (fun k k1 k2=>hk k (by omega) k2)⟩
theorem Qz{g:Nat}:∀{bs:List bI}{w:World}{lo hi hi':Nat}{us:List Value},nJ g bs w lo hi us->hi<=hi'->nJ g bs w lo hi' us
 |[],_,_,_,_,_,h,_=>h
 |_::_,_,_,_,_,_,⟨l,m,u,us',h0,h1,h2,h3,h4,h5,h6⟩,hh=>⟨l,m,u,us',h0,h1,h2,by omega,h4,h5,Qz h6 hh⟩
theorem aiC{g:Nat}{bs:List bI}{w:World}{lo lo' hi:Nat}{us:List Value}(h:nJ g bs w lo hi us)(hlo:lo'<=lo):nJ g bs w lo' hi us:=by
 cases bs with
 |nil=>exact h
 |cons b bs=>
  obtain⟨l,m,u,us',h0,h1,h2,h3,h4,h5,h6⟩:=h;exact⟨l,m,u,us',h0,by omega,h2,h3,h4,h5,h6⟩
theorem Yg{g:Nat}:∀{bs:List bI}{w:World}{lo l m hi:Nat}{us:List Value}{b:bI}{u:Value},nJ g bs w lo l us->b.here w l m u->lo<=l->l<=m->m<=hi->(g<l\/m<=g)->nJ g (bs++[b]) w lo hi (us++[u])
 |[],_,_,l,m,_,us,b,u,h,hb,h1,h2,h3,hg=>by
  have h:us=[]:=h;subst h;exact⟨l,m,u,[],rfl,h1,h2,h3,hg,hb,rfl⟩
 |_::_,_,_,_,_,_,_,_,u,⟨l',m',v,us',h0,h1,h2,h3,h4,h5,h6⟩,hb,k1,k2,k3,hg=>by
  subst h0;exact⟨l',m',v,us'++[u],rfl,h1,h2,by omega,h4,h5,Yg h6 hb h3 k2 k3 hg⟩
theorem Yf{g g':Nat}:∀{bs:List bI}{w:World}{lo hi:Nat}{us:List Value},nJ g bs w lo hi us->hi<=g'->nJ g' bs w lo hi us
 |[],_,_,_,_,h,_=>h
 |_::_,_,_,_,_,⟨l,m,u,us',h0,h1,h2,h3,_,h5,h6⟩,hh=>⟨l,m,u,us',h0,h1,h2,h3,Or.inr (by omega),h5,Yf h6 hh⟩
theorem KW{T:TypeId}{l:List bI}(hl:∀b∈l,Lawful b.here):Lawful (Vu T l):=by
 constructor
 .rintro w w' lo hi v (h|⟨g,cap,us,arr,h1,h2,h3,h4,h5,h6⟩) hk
  .exact Or.inl h
  .exact Or.inr ⟨g,cap,us,arr,h1,h2,h3,MG hl h4 hk,(hk g h2 h3).trans h5,h6⟩
 .rintro w lo hi lo' hi' v (h|⟨g,cap,us,arr,h1,h2,h3,h4,h5,h6⟩) l1 l2
  .exact Or.inl h
  .exact Or.inr ⟨g,cap,us,arr,h1,by omega,by omega,Qz (aiC h4 l1) l2,h5,h6⟩
def kT(s:ByteArray)(ex:Ps->Ex×Ps)(p:Ps):Ex×Ps:=((ex (p.expect s [61])).1,(ex (p.expect s [61])).2.expect s [59])
end Hx
section
open Go.RowKit Hx
attribute [local go_sem ↓] Go.wp_at_zero Go.wp_at_succ
attribute [local go_sem] bT
section
variable {s:ByteArray}{ex:Ps->Ex×Ps}{d:Nat}{p:Ps}{r:Ex×Ps}
theorem EC(h:kY s ex d)(ok:p.Ok s)(hd:Deep d p):eP s p (kT s ex p).2/\cZ (kT s ex p).1:=by
 have g1:=rU ok (t:=[61]) (by simp);obtain⟨g2,e2⟩:=h _ g1.ok (hd.dB g1);have g3:=rU g2.ok (t:=[59]) (by simp);exact⟨(g1.trans g2).trans g3,e2⟩
theorem Oh(hs:s.size<=4000)(h:Reader s ex d)(ok:p.Ok s)(hd:Deep d p):eH 233 [] s p (kT s ex p):=by
 intro P w hp;have hlt:=hp.lt;have g1:=rU ok (t:=[61]) (by simp);have d1:=hd.dB g1;obtain⟨g2,x1⟩:=h.dB _ g1.ok d1;have H0:Hid (Calls prog 239 #[Pt P 0,.string ⟨#[61]⟩] w (dP P s w (.tuple #[]) (p.expect s [61]))):=zK hp ok hs [61];have H1:Hid (∀x,aC x P s (p.expect s [61])->Calls prog 238 #[Pt P 0] x fun e w'=>∃v,e=.returned v/\(ex (p.expect s [61])).1.here (ex (p.expect s [61])).1.at' w' x.heap.size w'.heap.size v/\aC w' P s (ex (p.expect s [61])).2/\x.grownBy w' (some P)):=fun x hx=>h.reads _ g1.ok d1 P x hx;have H2:Hid (∀x,aC x P s (ex (p.expect s [61])).2->Calls prog 239 #[Pt P 0,.string ⟨#[59]⟩] x (dP P s x (.tuple #[]) ((ex (p.expect s [61])).2.expect s [59]))):=fun x hx=>zK hx g2.ok hs [59];show Calls prog 233 #[Pt P 0] w fun e w'=>∃v,e=.returned v/\(ex (p.expect s [61])).1.here (ex (p.expect s [61])).1.at' w' w.heap.size w'.heap.size v/\aC w' P s ((ex (p.expect s [61])).2.expect s [59])/\w.grownBy w' (some P);generalize ex (p.expect s [61])=rr at *;generalize p.expect s [61]=q at *;generalize rr.2.expect s [59]=q2 at *;have HX:Hid (cZ rr.1):=x1;clear hp d1 g1 g2 x1 ok hd h;go_enter func233,ntmps233;go_wp2_with fail;refine H0.out.mono ?_;rintro e w1 ⟨rfl,p1,k1⟩;have bP:Hid (aC w1 P s q/\w.grownBy w1 (some P)):=⟨p1,k1⟩;clear p1 k1 H0;go_wp2_with fail;refine(H1.out _ bP.out.1).mono ?_;rintro e w2 ⟨v,rfl,e2,p2,k2⟩;have HP2:Hid (rr.1.here rr.1.at' w2 w1.heap.size w2.heap.size v/\aC w2 P s rr.2/\w1.grownBy w2 (some P)):=⟨e2,p2,k2⟩;clear e2 p2 k2 H1;go_wp2_with fail
 refine(H2.out _ HP2.out.2.1).mono ?_;rintro e w3 ⟨rfl,p3,k3⟩;have dG:Hid (aC w3 P s q2/\w2.grownBy w3 (some P)):=⟨p3,k3⟩;clear p3 k3 H2;go_wp2_with fail;go_ret;obtain⟨a1,a2⟩:=bP.out;obtain⟨b0,b1,b2⟩:=HP2.out;obtain⟨c1,c2⟩:=dG.out;have s1:=a2.size;have s3:=c2.size;exact⟨v,rfl,(HX.out.law _).wide _ _ _ _ _ _ (HX.out.aN b0 (by omega) (Nat.le_refl _) c2) s1 s3,c1,(a2.trans b2).trans c2⟩
end
end
namespace Hx
open Go.RowKit
def O9(E F G:rM):Kids:=fun w lo hi us=>∃m k u v z,us=[u,v,z]/\lo<=m/\m<=k/\k<=hi/\E w lo m u/\F w m k v/\G w k hi z
theorem Ht{E F G:rM}(h:Lawful E)(k:Lawful F)(g:Lawful G):yh (O9 E F G):=
 ⟨fun _ _ _ _ _ ⟨m,n,u,v,z,e,h1,h2,h3,hu,hv,hz⟩ hk=>⟨m,n,u,v,z,e,h1,h2,h3,h.loc _ _ _ _ _ hu (fun b b1 b2=>hk b b1 (by omega)),k.loc _ _ _ _ _ hv (fun b b1 b2=>hk b (by omega) (by omega)),g.loc _ _ _ _ _ hz (fun b b1 b2=>hk b (by omega) b2)⟩,
  fun _ _ _ _ _ _ ⟨m,n,u,v,z,e,h1,h2,h3,hu,hv,hz⟩ l1 l2=>⟨m,n,u,v,z,e,by omega,h2,by omega,h.wide _ _ _ _ _ _ hu l1 (Nat.le_refl _),hv,g.wide _ _ _ _ _ _ hz (Nat.le_refl _) l2⟩⟩
end Hx
section
open Go.RowKit Hx
section
def mJ(T:TypeId):Prop:=T∈[331,321,327,333,336,339,349]
theorem mJ.mQ{T:TypeId}(h:mJ T)(A:Nat)(w:World):(method 576 T (Pt A 0) "helm/lang.price").run prog w=.ok (244,Pt A 0) w:=by
 simp only[mJ,List.mem_cons,List.not_mem_nil,or_false]at h;rcases h with rfl|rfl|rfl|rfl|rfl|rfl|rfl<;>kernel_rfl
structure fQ(e:bI):Prop where
 law:Lawful e.here
 head:∀w lo hi v,e.here w lo hi v->∃T b,v=.iface T (Pt b 0)/\mJ T/\lo<=b/\b<hi/\w.cell? (Ad b 1)=some (Im e.aj)
 aj:0<=e.aj/\e.aj<=1000001
def xE(T' T:TypeId)(at' aj:Int)(K:Hx.Kids)(mk:List Value->List Value)(ds:Ds:={}):bI:=
 ⟨aj,fun w lo hi v=>∃b us,v=.iface T' (Pt b 0)/\lo<=b/\b<hi/\K w lo b us/\w.heap[b]? =some (.cells (Im at'::Im aj::mk us).toArray T),ds⟩
theorem qR{T' T:TypeId}{at' aj:Int}{K:Hx.Kids}{mk:List Value->List Value}{ds:Ds}(hT:mJ T')(hK:yh K)(hc:0<=aj/\aj<=1000001):fQ (xE T' T at' aj K mk ds):=by
 refine⟨⟨?_,?_⟩,?_,hc⟩
 .rintro w w' lo hi v ⟨b,us,hv,h1,h2,h3,h4⟩ hk;exact⟨b,us,hv,h1,h2,hK.loc _ _ _ _ _ h3 (fun b' b1 b2=>hk b' b1 (by omega)),(hk b h1 h2).trans h4⟩
 .rintro w lo hi lo' hi' v ⟨b,us,hv,h1,h2,h3,h4⟩ l1 l2;exact⟨b,us,hv,by omega,by omega,hK.wide _ _ _ _ _ _ h3 l1 (Nat.le_refl _),h4⟩
 .rintro w lo hi v ⟨b,us,hv,h1,h2,h3,h4⟩;exact⟨T',b,hv,hT,h1,h2,aA h4⟩
theorem EX{T' T:TypeId}{at' aj:Int}{K:Hx.Kids}{mk:List Value->List Value}{ds:Ds}(hK:yh K){w:World}{lo:Nat}{us:List Value}(h:K w lo w.heap.size us)(hlo:lo<=w.heap.size){o:Obj}
 (ho:o=.cells (Im at'::Im aj::mk us).toArray T):(xE T' T at' aj K mk ds).here (w.alloc o) lo (w.alloc o).heap.size (.iface T' (Pt w.heap.size 0)):=by
 subst ho;exact⟨w.heap.size,us,rfl,hlo,by rw[kK];omega,hK.loc _ _ _ _ _ h (fun b _ b2=>Below.heap_alloc _ _ _ b2),heap_alloc_new _ _⟩
def dX(l:List bI):rM:=Vu 192 l
def dK(l:List bI):Int:=l.foldl (fun a e=>dY [a,e.aj]) 0
theorem Yi:∀(l:List bI)(a:Int),(∀e∈l,fQ e)->0<=a/\a<=1000001->0<=l.foldl (fun a e=>dY [a,e.aj]) a/\l.foldl (fun a e=>dY [a,e.aj]) a<=1000001
 |[],_,_,h=>h
 |e::l,a,hl,h=>Yi l _ (fun x hx=>hl x (List.mem_cons_of_mem _ hx)) (uY _ (by have:=(hl e (List.mem_cons_self ..)).aj;simp;omega))
theorem qG{l:List bI}(hl:∀e∈l,fQ e):0<=dK l/\dK l<=1000001:=Yi l 0 hl (by omega)
def lS(l:List bI)(c:Ck):Ck:=(l.foldl (fun c s=>s.does.look c) c).cut c.au.length
def fF(l:List bI)(c:Co):Co:=((l.foldl (fun c s=>s.does.lay c) c).cut c.au.length).dw c.free
def aen(b:Wd)(e:Ex):Ds:=
 ⟨fun c=>(e.does.look (c.eX b.text b.at')).add b.text (e.does.bY (c.eX b.text b.at').au) true,
  fun c=>
   let r:=e.does.bJ c (-1)
   ((if r.2=c.free then r.1 else r.1.lay 7 [c.free,r.2]).dw (wrap64 (c.free+1))).know b.text c.free⟩
def ahR(b:Wd)(e:Ex):Ds:=
 ⟨fun c=>
   let c1:=if (fV c.au b.text).isVar then c else c.fail 2 b.at'
   (e.does.look c1).want (e.does.bY c1.au) e.at' (fV c.au b.text).kind,
  fun c=>c.store (c.uf b.text) e.does⟩
def aiw(i:Int)(e:Ex):Ds:=⟨fun c=>(e.does.look c).want (e.does.bY c.au) e.at' 1,fun c=>c.store i e.does⟩
def af5(e f:Ex):Ds:=
 ⟨fun c=>
   let c1:=(e.does.look c).want (e.does.bY c.au) e.at' 3
   (f.does.look c1).want (f.does.bY c1.au) f.at' 4,
  fun c=>
   let r:=e.does.bJ c (-1)
   let q:=f.does.bJ r.1 (-1)
   (q.1.lay 36 [r.2,q.2]).dw c.free⟩
def agU:Ds:=⟨fun c=>c,fun c=>c.lay 1 []⟩
def aaM(e:Ex)(y n:List bI):Ds:=
 ⟨fun c=>lS n (lS y ((e.does.look c).want (e.does.bY c.au) e.at' 2)),
  fun c=>
   let r:=e.does.bJ c (-1)
   let c1:=fF y ((r.1.dw c.free).lay 2 [r.2])
   (if 0<n.length then fF n (c1.lay 3 [])else c1).lay 0 []⟩
def aec(b:Wd)(x:Sx)(l:List bI):Ds:=
 ⟨fun c=>
   let c1:=kH x.of x.aH (c.eX b.text b.at')
   (lS l (c1.add b.text x.of false)).cut c1.au.length,
  fun c=>
   let f:=c.kN (bZ x.base) x.aH
   (((fF l ((f.1.lay 4 [bZ x.base,f.2,f.2]).know b.text f.2)).lay 0 []).cut c.au.length).dw c.free⟩
def yO(at':Int)(b:Wd)(e:Ex):bI:=xE 331 332 at' (bD [e.aj]) (nU (e.here e.at')) (fun us=>.string b.text::Im b.at'::us) (aen b e)
def tZ(b:Wd)(e:Ex):bI:=xE 321 326 b.at' (bD [e.aj]) (nU (e.here e.at')) (fun us=>.string b.text::Im b.at'::us) (ahR b e)
def BF(at' i:Int)(e:Ex):bI:=xE 327 329 at' (bD [e.aj]) (nU (e.here e.at')) (fun us=>Im i::us) (aiw i e)
def yR(at':Int)(e f:Ex):bI:=xE 333 335 at' (bD [e.aj,f.aj]) (rX (e.here e.at') (f.here f.at')) (fun us=>us) (af5 e f)
def Bq(at':Int):bI:=xE 336 338 at' 1 yP (fun _=>[]) agU
def rP(at':Int)(e:Ex)(y n:List bI):bI:=xE 339 341 at' (bD [e.aj,dK y,dK n]) (O9 (e.here e.at') (dX y) (dX n)) (fun us=>us++[.bool false]) (aaM e y n)
def vW(at':Int)(b:Wd)(x:Sx)(l:List bI):bI:=xE 349 351 at' (bD [x.aj,x.round (dK l)]) (rX (dF x) (dX l)) (fun us=>.string b.text::Im b.at'::us) (aec b x l)
namespace Hx
section
variable (s:ByteArray)(ex:Ps->Ex×Ps)(aW:Ps->List bI×Ps)(st:Ps->Option bI×Ps)
def Ie(p:Ps):bI×Ps:=
 let d:=(p.next s).name s
 (yO p.k.at' d.1 (kT s ex d.2).1,(kT s ex d.2).2)
def IL(p:Ps):bI×Ps:=(tZ (p.name s).1 (kT s ex (p.name s).2).1,(kT s ex (p.name s).2).2)
def IX(p:Ps):bI×Ps:=(BF p.k.at' ((p.k.text.data.toList.getD 1 0).toNat-48) (kT s ex (p.next s)).1,(kT s ex (p.next s)).2)
def IB(ex':Ps->Ex×Ps)(p:Ps):bI×Ps:=
 let a:=ex' ((p.next s).open' s [40])
 let b:=ex' (a.2.expect s [44])
 (yR p.k.at' a.1 b.1,(b.2.close s [41]).expect s [59])
def IG(p:Ps):bI×Ps:=(Bq p.k.at',(p.next s).expect s [59])
def zI(p:Ps):bI×Ps:=
 let c:=ex (p.next s)
 let y:=aW c.2
 if y.2.is [101,108,115,101]then (rP p.k.at' c.1 y.1 (aW (y.2.next s)).1,(aW (y.2.next s)).2)else (rP p.k.at' c.1 y.1 [],y.2)
def Ib(ex':Ps->Ex×Ps)(n:Nat)(p:Ps):bI×Ps:=
 let d:=(p.next s).name s
 let x:=kR s ex' n (d.2.expect s [105,110])
 let b:=aW (if x.1.2 then x.2.fail else x.2)
 (vW p.k.at' d.1 x.1.1 b.1,b.2)
def xO(ex':Ps->Ex×Ps)(n:Nat)(p:Ps):Option bI×Ps:=
 if p.k.kind=2 then (some (IL s ex p).1,(IL s ex p).2)
 else if p.k.kind=4 then (some (IX s ex p).1,(IX s ex p).2)
 else if p.is [118,97,114]then (some (Ie s ex p).1,(Ie s ex p).2)
 else if p.is [112,117,115,104]then (some (IB s ex' p).1,(IB s ex' p).2)
 else if p.is [114,101,116,117,114,110]then (some (IG s p).1,(IG s p).2)
 else if p.is [105,102]then (some (zI s ex aW p).1,(zI s ex aW p).2)
 else if p.is [101,97,99,104]then (some (Ib s aW ex' n p).1,(Ib s aW ex' n p).2)
 else (none,p)
def oH:Nat->List bI->Ps->List bI×Ps
 |0,l,p=>(l,p)
 |n+1,l,p=>match st p with
  |(some e,q)=>oH n (l++[e]) q
  |(none,q)=>(l,q)
def wZ(nI:Ps->List bI×Ps)(p:Ps):List bI×Ps:=((nI (p.open' s [123])).1,(nI (p.open' s [123])).2.close s [125])
end
def mF(s:ByteArray):Nat->Ps->List bI×Ps
 |0,p=>([],p)
 |d+1,p=>oH (xO s (pJ s (d+1)) (wZ s (mF s d)) (pJ s d) (s.size+1)) (s.size+1) [] p
end Hx
end
section
variable {s:ByteArray}{ex ex':Ps->Ex×Ps}{aW:Ps->List bI×Ps}{d:Nat}{p:Ps}
def zn(s:ByteArray)(aW:Ps->List bI×Ps)(d:Nat):Prop:=∀p,p.Ok s->Deep d p->eP s p (aW p).2/\∀e∈(aW p).1,fQ e
structure AV(s:ByteArray)(p:Ps)(r:bI×Ps):Prop where
 goes:eP s p r.2
 vS:fQ r.1
 more:p.k.at'+1<=r.2.k.at'
theorem oC{l:List bI}(h:∀e∈l,fQ e):Lawful (dX l):=KW fun b hb=>(h b hb).law
theorem BA(ok:p.Ok s)(hz:1<=p.k.text.size){q:Ps}(h:eP s (p.next s) q):p.k.at'+1<=q.k.at':=by
 have:=EW ok;have:=h.mono;omega
theorem aer(h:kY s ex (d+1))(ok:p.Ok s)(hd:Deep (d+1) p)(ht:p.is [118,97,114]=true):AV s p (Ie s ex p):=by
 have g1:=gq ok (kJ (by simp) ht);have g2:=zO g1.ok;obtain⟨g3,e3⟩:=EC h g2.ok (hd.dB (g1.trans g2));exact⟨(g1.trans g2).trans g3,qR (by simp[mJ]) (uJ (e3.law _)) (yQ e3.aj),BA ok (Di (by simp) ht) (g2.trans g3)⟩
theorem ahU(h:kY s ex (d+1))(ok:p.Ok s)(hd:Deep (d+1) p)(hk:p.k.kind=2):AV s p (IL s ex p):=by
 have e1:(p.name s).2=p.next s:=by unfold Hx.Ps.name;rw[if_pos hk]
 have g1:=gq ok (Du (by rw[hk];decide));obtain⟨g3,e3⟩:=EC h g1.ok (hd.dB g1);refine⟨?_,?_,?_⟩
 .show eP s p (kT s ex (p.name s).2).2;rw[e1];exact g1.trans g3
 .show fQ (tZ _ (kT s ex (p.name s).2).1);rw[e1];exact qR (by simp[mJ]) (uJ (e3.law _)) (yQ e3.aj)
 .show p.k.at'+1<=(kT s ex (p.name s).2).2.k.at';rw[e1];exact BA ok (ok.kinds.name hk) g3
theorem aiz(h:kY s ex (d+1))(ok:p.Ok s)(hd:Deep (d+1) p)(hk:p.k.kind=4):AV s p (IX s ex p):=by
 have g1:=gq ok (Du (by rw[hk];decide));obtain⟨g3,e3⟩:=EC h g1.ok (hd.dB g1);refine⟨g1.trans g3,qR (by simp[mJ]) (uJ (e3.law _)) (yQ e3.aj),BA ok ?_ g3⟩;obtain⟨x,hx,_⟩:=ok.kinds.register hk;exact QH (by simp) hx
theorem af8(h:kY s ex' d)(ok:p.Ok s)(hd:Deep (d+1) p)(ht:p.is [112,117,115,104]=true):AV s p (IB s ex' p):=by
 have g1:=gq ok (kJ (by simp) ht);have d1:=(hd.dB g1).open' g1.ok (t:=[40]) (by simp);obtain⟨g2,e2⟩:=h _ (g1.ok.open' [40]) d1;have g3:=rU g2.ok (t:=[44]) (by simp);obtain⟨g4,e4⟩:=h _ g3.ok (d1.dB (g2.trans g3));have g5:=EF g1.ok (t:=[40]) (u:=[41]) (by simp) (by simp) ((g2.trans g3).trans g4);have g6:=g5.trans (rU g5.ok (t:=[59]) (by simp));exact⟨g1.trans g6,qR (by simp[mJ]) (tu (e2.law _) (e4.law _)) (Bo e2.aj e4.aj),BA ok (Di (by simp) ht) g6⟩
theorem agX(ok:p.Ok s)(ht:p.is [114,101,116,117,114,110]=true):AV s p (IG s p):=by
 have g1:=gq ok (kJ (by simp) ht);have g2:=rU g1.ok (t:=[59]) (by simp);exact⟨g1.trans g2,qR (by simp[mJ]) Ac (by omega),BA ok (Di (by simp) ht) g2⟩
theorem LM{a b c:Int}(h:0<=a/\a<=1000001)(k:0<=b/\b<=1000001)(l:0<=c/\c<=1000001):0<=bD [a,b,c]/\bD [a,b,c]<=1000001:=P8 _ (by simp;exact⟨h,k,l⟩)
theorem aaQ(h:kY s ex (d+1))(hb:zn s aW (d+1))(ok:p.Ok s)(hd:Deep (d+1) p)(ht:p.is [105,102]=true):AV s p (zI s ex aW p):=by
 have g1:=gq ok (kJ (by simp) ht);obtain⟨g2,e2⟩:=h _ g1.ok (hd.dB g1);have g12:=g1.trans g2;obtain⟨g3,e3⟩:=hb _ g2.ok (hd.dB g12);have yG:=g12.trans g3;unfold zI;simp only;split
 .rename_i hel;have g4:=gq g3.ok (kJ (by simp) hel);obtain⟨g5,e5⟩:=hb _ g4.ok (hd.dB (yG.trans g4));exact⟨(yG.trans g4).trans g5,qR (by simp[mJ]) (Ht (e2.law _) (oC e3) (oC e5)) (LM e2.aj (qG e3) (qG e5)),BA ok (Di (by simp) ht) ((g2.trans g3).trans (g4.trans g5))⟩
 .exact⟨yG,qR (by simp[mJ]) (Ht (e2.law _) (oC e3) (oC (by simp))) (LM e2.aj (qG e3) (qG (by simp))),BA ok (Di (by simp) ht) (g2.trans g3)⟩
theorem aeg(n:Nat)(h:kY s ex' d)(hb:zn s aW (d+1))(ok:p.Ok s)(hd:Deep (d+1) p)(ht:p.is [101,97,99,104]=true):AV s p (Ib s aW ex' n p):=by
 have g1:=gq ok (kJ (by simp) ht);have g2:=zO g1.ok;have g3:=rU g2.ok (t:=[105,110]) (by simp);have yG:=(g1.trans g2).trans g3;obtain⟨g4,e4⟩:=L8 h n g3.ok (hd.dB yG);have g5:eP s (kR s ex' n (((p.next s).name s).2.expect s [105,110])).2 (if (kR s ex' n (((p.next s).name s).2.expect s [105,110])).1.2 then (kR s ex' n (((p.next s).name s).2.expect s [105,110])).2.fail else (kR s ex' n (((p.next s).name s).2.expect s [105,110])).2):=by
  split
  .exact zN g4.ok
  .exact eP.refl g4.ok
 obtain⟨g6,e6⟩:=hb _ g5.ok (hd.dB ((yG.trans g4).trans g5));exact⟨((yG.trans g4).trans g5).trans g6,qR (by simp[mJ]) (tu e4.law (oC e6)) (Bo e4.aj (tY (qG e6))),BA ok (Di (by simp) ht) ((((g2.trans g3).trans g4).trans g5).trans g6)⟩
def Gf(s:ByteArray)(st:Ps->Option bI×Ps)(d:Nat):Prop:=∀p,p.Ok s->Deep d p->(∃e q,st p=(some e,q)/\AV s p (e,q))\/st p=(none,p)
theorem X7(n:Nat)(h:kY s ex (d+1))(h':kY s ex' d)(hb:zn s aW (d+1)):Gf s (xO s ex aW ex' n) (d+1):=by
 intro p ok hd;unfold xO;split
 .rename_i h1;exact Or.inl ⟨_,_,rfl,ahU h ok hd h1⟩
 split
 .rename_i h1;exact Or.inl ⟨_,_,rfl,aiz h ok hd h1⟩
 split
 .rename_i h1;exact Or.inl ⟨_,_,rfl,aer h ok hd h1⟩
 split
 .rename_i h1;exact Or.inl ⟨_,_,rfl,af8 h' ok hd h1⟩
 split
 .rename_i h1;exact Or.inl ⟨_,_,rfl,agX ok h1⟩
 split
 .rename_i h1;exact Or.inl ⟨_,_,rfl,aaQ h hb ok hd h1⟩
 split
 .rename_i h1;exact Or.inl ⟨_,_,rfl,aeg n h' hb ok hd h1⟩
 .exact Or.inr rfl
theorem XY{st:Ps->Option bI×Ps}(h:Gf s st d):∀(n:Nat)(l:List bI)(p:Ps),(∀e∈l,fQ e)->p.Ok s->Deep d p->eP s p (oH st n l p).2/\∀e∈(oH st n l p).1,fQ e
 |0,l,p,hl,ok,_=>⟨eP.refl ok,hl⟩
 |n+1,l,p,hl,ok,hd=>by
  unfold oH;rcases h p ok hd with⟨e,q,he,hg⟩|he
  .rw[he];obtain⟨g2,e2⟩:=XY h n (l++[e]) q (fun x hx=>by
    rcases List.mem_append.1 hx with hx|hx
    .exact hl x hx
    .rw[List.mem_singleton.1 hx];exact hg.vS) hg.goes.ok (hd.dB hg.goes)
   exact⟨hg.goes.trans g2,e2⟩
  .rw[he];exact⟨eP.refl ok,hl⟩
theorem SV{nI:Ps->List bI×Ps}(h:zn s nI d):zn s (wZ s nI) (d+1):=by
 intro p ok hd;obtain⟨h1,h2⟩:=h _ (ok.open' [123]) (hd.open' ok (by simp));exact⟨EF ok (by simp) (by simp) h1,h2⟩
theorem MF(s:ByteArray):∀(d:Nat),zn s (mF s d) d
 |0=>fun _ ok _=>⟨eP.refl ok,by simp[mF]⟩
 |d+1=>fun p ok hd=>XY (X7 (s.size+1) (CQ s (d+1)) (CQ s d) (SV (MF s d))) (s.size+1) [] p (by simp) ok hd
end
section
structure nO(N:Nat)(Q:Ex->Prop)(x:Sx):Prop where
 of:x.of=3\/x.of=4
 all:∀b∈x.aH,Q b.2
 len:x.aH.length<=N
 aj:0<=x.aj/\x.aj<=1000001
 sum:x.aj<=1000000->1+(x.aH.map fun b=>1+b.2.aj).sum<=x.aj
theorem DT{a b:Int}(hb:0<=b)(h:dY [a,b]<=1000000):dY [a,b]=a+b:=by
 unfold dY at h⊢;simp only[List.foldl_cons,List.foldl_nil]at h⊢;omega
theorem QK{a:Int}(h:dY [a]<=1000000):dY [a]=a:=by
 unfold dY at h⊢;simp only[List.foldl_cons,List.foldl_nil]at h⊢;omega
theorem Qn{x:Sx}{c:Int}(hc:0<=c)(h:x.round c<=1000000):1+c<=x.round c:=by
 unfold Hx.Sx.round at h⊢;rw[QK h];have h2:=QK h;rw[h2]at h;have h3:dY [1,c]<=1000000:=by split at h<;>omega
 have h4:=DT (a:=1) (b:=c) hc h3;rw[h4];split<;>omega
theorem nO.ZO{x:Sx}{b:Wd×Ex}(hx:0<=x.aj)(hb:0<=b.2.aj)(h:x.aj<=1000000->1+(x.aH.map fun b=>1+b.2.aj).sum<=x.aj)(hr:0<=x.round b.2.aj):(x.add b).aj<=1000000->1+((x.add b).aH.map fun b=>1+b.2.aj).sum<=(x.add b).aj:=by
 unfold Hx.Sx.add;simp only;intro hc;have h1:=DT hr hc;rw[h1]at hc⊢;have h2:=Qn (x:=x) hb (by omega);have h3:=h (by omega);simp only[List.map_append,List.map_cons,List.map_nil,List.sum_append,List.sum_cons,List.sum_nil];omega
structure zu(N:Nat)(Q0 Q:Ex->Prop):Prop where
 aj:∀e,Q0 e->0<=e.aj/\e.aj<=1000001
 number:∀a n,Q (xG a n)
 sK:∀a b,Q (xP a 1 2 b)
 none:Q qC
 register:∀a i,Q (Dz a i)
 use:∀a d,Q (wK a d)
 rF:∀e a,Q0 e->Q (e.rF a)
 isNone:∀a e,Q0 e->Q (zW a e)
 minus:∀a sign e,sign.data.toList=[45]->Q e->Q (uP a 1 sign e)
 not:∀a sign e,sign.data.toList=[33]->Q e->Q (uP a 2 sign e)
 two:∀a sign l r,Q l->Q r->Q (qH a (lX sign.data.toList).2 sign l r)
 property:∀a e (d:Wd),Q e->Q (tV a (lU d.text.data.toList).2 (lU d.text.data.toList).1 e d)
 PV:∀a l r,Q l->Q0 r->Q (Ae a l r)
 JB:∀k what x,nO N Q0 x->Q (Ci k what x)
 Dq:∀k what x b,nO N Q0 x->Q0 b.2->Q (tH k what x b)
section
variable {s:ByteArray}{ex:Ps->Ex×Ps}{Q0 Q:Ex->Prop}{N:Nat}
theorem Vo{p:Ps}{t:List UInt8}(h:p.is t=true):p.k.text.data.toList=t:=by simpa [Ps.is]using h
theorem XL(hq:∀e,Q0 e->0<=e.aj/\e.aj<=1000001)(h0:∀p,Q0 (ex p).1):∀(n:Nat)(x:Sx)(p:Ps),x.aH.length+n<=N->nO N Q0 x->nO N Q0 (qg s ex n x p).1.1
 |0,_,_,_,hx=>hx
 |n+1,x,p,hn,hx=>by
  unfold qg;split
  .split
   .have hl:(x.aH++[(lG s ex ((p.next s).next s)).1]).length+n<=N:=by simp only[List.length_append,List.length_cons,List.length_nil];omega
    refine XL hq h0 n _ _ hl ⟨hx.1,fun b hb=>?_,Nat.le_trans (Nat.le_add_right _ _) hl,uY _ (by have:=hx.aj;have:=tY (x:=x) (hq _ (h0 (((p.next s).next s).open' s [40]|>.name s|>.2|>.expect s [58])));simp;exact⟨by omega,by first|omega|exact this⟩),nO.ZO hx.aj.1 (hq _ (h0 _)).1 hx.sum (tY (hq _ (h0 _))).1⟩;rcases List.mem_append.1 hb with hb|hb
    .exact hx.2 b hb
    .rw[List.mem_singleton.1 hb];exact h0 _
   .exact hx
  .exact hx
theorem XO(hq:∀e,Q0 e->0<=e.aj/\e.aj<=1000001)(h0:∀p,Q0 (ex p).1)(n:Nat)(hn:n<=N)(p:Ps):nO N Q0 (kR s ex n p).1.1:=by
 unfold kR;split
 .rename_i of hof;exact XL hq h0 _ _ _ (by simpa using hn) ⟨Qr hof,fun b hb=>(by cases hb),Nat.zero_le _,by simp,by simp⟩
 .exact⟨Or.inr rfl,fun b hb=>(by cases hb),Nat.zero_le _,by simp,by simp⟩
theorem agm(hc:zu N Q0 Q)(h0:∀p,Q0 (ex p).1)(n:Nat)(hn:n<=N)(p:Ps):Q (yS s ex n p).1:=by
 have hS:=XO (s:=s) hc.aj h0 n hn p;unfold yS;split
 .unfold Fj;repeat' split
  .exact hc.JB _ _ _ hS
  .exact hc.JB _ _ _ hS
  .exact hc.Dq _ _ _ _ hS (h0 _)
  .exact hc.Dq _ _ _ _ hS (h0 _)
  .exact hc.Dq _ _ _ _ hS (h0 _)
  .exact hc.none
 .exact hc.none
theorem SI(hc:zu N Q0 Q)(h0:∀p,Q0 (ex p).1)(n:Nat)(hn:n<=N)(p:Ps):Q (oL s ex n p).1:=by
 unfold oL;repeat' split
 .exact hc.number _ _
 .exact hc.register _ _
 .exact hc.use _ _
 .exact hc.sK _ _
 .exact hc.rF _ _ (h0 _)
 .exact hc.isNone _ _ (h0 _)
 .exact agm hc h0 n hn p
 .exact hc.none
theorem JD(hc:zu N Q0 Q)(h0:∀p,Q0 (ex p).1)(at':Int):∀(n:Nat)(e:Ex)(p:Ps),Q e->Q (qw s ex at' n e p).1
 |0,_,_,he=>he
 |n+1,e,p,he=>by
  unfold qw;split
  .simp only;split
   .exact JD hc h0 at' n _ _ (hc.PV _ _ _ he (h0 _))
   .exact JD hc h0 at' n _ _ (hc.property _ _ _ he)
  .exact he
theorem PG(hc:zu N Q0 Q)(h0:∀p,Q0 (ex p).1)(n:Nat)(hn:n<=N):∀(m:Nat)(p:Ps),Q (tJ s ex n m p).1
 |0,p=>JD hc h0 _ _ _ _ (SI hc h0 _ hn _)
 |m+1,p=>by
  unfold tJ;split
  .rename_i h1;exact hc.minus _ _ _ (Vo h1) (PG hc h0 n hn m _)
  split
  .rename_i h1;exact hc.not _ _ _ (Vo h1) (PG hc h0 n hn m _)
  .exact JD hc h0 _ _ _ _ (SI hc h0 _ hn _)
theorem Wu(hc:zu N Q0 Q){lower:Ps->Ex×Ps}(hl:∀p,Q (lower p).1)(of at':Int):∀(n:Nat)(e:Ex)(p:Ps),Q e->Q (pV s lower of at' n e p).1
 |0,_,_,he=>he
 |n+1,e,p,he=>by
  unfold pV;split
  .simp only;split
   .exact hc.two _ _ _ _ he (hl _)
   .exact Wu hc hl of at' n _ _ (hc.two _ _ _ _ he (hl _))
  .exact he
theorem P5(hc:zu N Q0 Q)(h0:∀p,Q0 (ex p).1)(n:Nat)(hn:n<=N):∀(l:Nat)(p:Ps),Q (Bl s ex n l p).1
 |0,p=>PG hc h0 n hn n p
 |l+1,p=>Wu hc (P5 hc h0 n hn l) _ _ _ _ _ (P5 hc h0 n hn l p)
end
theorem NV(s:ByteArray)(Q:Nat->Ex->Prop)(hn:Q 0 qC)(hc:∀d,zu (s.size+1) (Q d) (Q (d+1))):∀(d:Nat)(p:Ps),Q d (pJ s d p).1
 |0,_=>hn
 |d+1,p=>P5 (hc d) (NV s Q hn hc d) _ (Nat.le_refl _) _ p
structure Jv(N:Nat)(Cb QX:Ex->Prop)(L0:List bI->Prop)(QS:bI->Prop):Prop where
 aj:∀e,Cb e->0<=e.aj/\e.aj<=1000001
 Px:∀a b e,QX e->QS (yO a b e)
 Qu:∀b e,QX e->QS (tZ b e)
 Qx:∀a i e,QX e->QS (BF a i e)
 Qa:∀a e f,Cb e->Cb f->QS (yR a e f)
 returning:∀a,QS (Bq a)
 choice:∀a e y n,QX e->L0 y->L0 n->QS (rP a e y n)
 loop:∀a b x l,nO N Cb x->L0 l->QS (vW a b x l)
theorem ait{s:ByteArray}{ex ex':Ps->Ex×Ps}{aW:Ps->List bI×Ps}{Cb QX:Ex->Prop}{L0:List bI->Prop}{QS:bI->Prop}{N:Nat}(hc:Jv N Cb QX L0 QS)(h0:∀p,Cb (ex' p).1)(h1:∀p,QX (ex p).1)(hb:∀p,L0 (aW p).1)(hnil:L0 [])(n:Nat)(hn:n<=N)(p:Ps):
 ∀e,(xO s ex aW ex' n p).1=some e->QS e:=by
 intro e he;unfold xO at he;split at he
 .cases he;exact hc.Qu _ _ (h1 _)
 split at he
 .cases he;exact hc.Qx _ _ _ (h1 _)
 split at he
 .cases he;exact hc.Px _ _ _ (h1 _)
 split at he
 .cases he;exact hc.Qa _ _ _ (h0 _) (h0 _)
 split at he
 .cases he;exact hc.returning _
 split at he
 .cases he;unfold zI;simp only;split
  .exact hc.choice _ _ _ _ (h1 _) (hb _) (hb _)
  .exact hc.choice _ _ _ _ (h1 _) (hb _) hnil
 split at he
 .cases he;exact hc.loop _ _ _ _ (XO hc.aj h0 _ hn _) (hb _)
 .cases he
theorem XW{st:Ps->Option bI×Ps}{QS:bI->Prop}(h:∀p e,(st p).1=some e->QS e):∀(n:Nat)(l:List bI)(p:Ps),(∀e∈l,QS e)->∀e∈(oH st n l p).1,QS e
 |0,_,_,hl=>hl
 |n+1,l,p,hl=>by
  unfold oH;split
  .rename_i e q he;refine XW h n _ _ (fun x hx=>?_);rcases List.mem_append.1 hx with hx|hx
   .exact hl x hx
   .rw[List.mem_singleton.1 hx];exact h p e (by rw[he])
  .exact hl
theorem X0(st:Ps->Option bI×Ps):∀(n:Nat)(l:List bI)(p:Ps),(oH st n l p).1.length<=l.length+n
 |0,l,_=>Nat.le_refl _
 |n+1,l,p=>by
  unfold oH;split
  .rename_i e q _;have:=X0 st n (l++[e]) q;simp only[List.length_append,List.length_cons,List.length_nil]at this;omega
  .simp only;omega
theorem Qw(s:ByteArray)(QX:Nat->Ex->Prop)(QS:Nat->bI->Prop)(L:Nat->List bI->Prop)(hx:∀d p,QX d (pJ s d p).1)(hc:∀d,Jv (s.size+1) (QX d) (QX (d+1)) (L d) (QS (d+1)))(hnil:∀d,L d [])(hl:∀d l,l.length<=s.size+1->(∀e∈l,QS (d+1) e)->L (d+1) l):∀(d:Nat)(p:Ps),L d (mF s d p).1
 |0,_=>hnil 0
 |d+1,p=>by
  have h0:=Qw s QX QS L hx hc hnil hl d;have hb:∀p,L d (wZ s (mF s d) p).1:=fun p=>by unfold wZ;exact h0 _
  have hx0:=hx d;have hx1:=hx (d+1);have hcd:=hc d;have hnd:=hnil d;show L (d+1) (oH (xO s (pJ s (d+1)) (wZ s (mF s d)) (pJ s d) (s.size+1)) (s.size+1) [] p).1;generalize pJ s (d+1)=TN at *;generalize pJ s d=TM at *;generalize wZ s (mF s d)=bk at *;have h1:∀p e,(xO s TN bk TM (s.size+1) p).1=some e->QS (d+1) e:=fun p e he=>ait hcd hx0 hx1 hb hnd (s.size+1) (Nat.le_refl _) p e he;have h2:=X0 (xO s TN bk TM (s.size+1)) (s.size+1) [] p;have h3:=XW h1 (s.size+1) [] p (by simp);exact hl d _ (by simpa using h2) h3
end
end
end Go.Proofs.YthllhabjfchgiaaGreatDoor
