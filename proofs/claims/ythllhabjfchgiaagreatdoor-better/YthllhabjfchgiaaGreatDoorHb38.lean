import Derived.Test.YthllhabjfchgiaaGreatDoorHb37
import Derived.Lib.AtoiBound
set_option maxRecDepth 100000
set_option maxHeartbeats 8000000
set_option linter.unusedSimpArgs false
namespace Go.Proofs.YthllhabjfchgiaaGreatDoor
section
open Go.RowKit Hx
def AV:List (Wd×Ex)->List (Sz×Val)->Int->Int->Prop
 |[],zs,ts,cs=>zs=[]/\ts=0/\cs=0
 |b::bs,zs,ts,cs=>∃z f zs' t ts' cs',zs=(z,f)::zs'/\MX b.2 z f/\CQ t b.2 z/\ts=6+t+ts'/\cs=1+b.2.jy+cs'/\AV bs zs' ts' cs'
theorem aa5:∀{bs:List (Wd×Ex)}{zs:List (Sz×Val)}{ts cs:Int}{b:Wd×Ex}{z:Sz}{f:Val}{t:Int},AV bs zs ts cs->MX b.2 z f->CQ t b.2 z->AV (bs++[b]) (zs++[(z,f)]) (ts+(6+t)) (cs+(1+b.2.jy))
 |[],_,_,_,b,z,f,t,⟨h1,h2,h3⟩,hm,hs=>by
  subst h1 h2 h3;exact⟨z,f,[],t,0,0,rfl,hm,hs,by omega,by omega,rfl,rfl,rfl⟩
 |c::bs,_,_,_,b,z,f,t,⟨z',f',zs',t',ts',cs',h1,h2,h3,h4,h5,h6⟩,hm,hs=>by
  subst h1 h4 h5;exact⟨z',f',zs'++[(z,f)],t',ts'+(6+t),cs'+(1+b.2.jy),rfl,h2,h3,by omega,by omega,aa5 h6 hm hs⟩
structure agM(fs:List (Wd×Ex))(zs:List (Sz×Val))(tf cs W:Int)(D:Nat):Prop where
 Ry:0<=tf
 OM:0<=cs
 jM:0<=mP zs/\mP zs<=20 * tf
 jD:0<=lT zs
 some:fs≠[]->6<=tf/\1<=cs
 pq:∀p∈zs,uj p.2
 wide:0<=W/\2 * W<=tf
 each:∀p∈zs,p.1.wide<=W/\p.1.deep<=D
 all:cs<=1000000->lT zs+38 * (fs.length:Int)<=40 * cs/\(fs=[]\/((8^D:Nat):Int)<=cs)
 none:fs=[]->D=0/\zs=[]
theorem O6:∀{fs:List (Wd×Ex)}{zs:List (Sz×Val)}{tf cs:Int},AV fs zs tf cs->∃W D,agM fs zs tf cs W D
 |[],_,_,_,⟨h1,h2,h3⟩=>by
  subst h1 h2 h3;exact⟨0,0,⟨by omega,by omega,by simp[mP],by simp[lT],λh=>jq rfl h,by simp,by omega,by simp,λ_=>⟨by simp[lT],ji rfl⟩,λ_=>⟨rfl,rfl⟩⟩⟩
 |b::bs,_,_,_,⟨z,f,zs,t,ts,cs,h1,h2,h3,h4,h5,h6⟩=>by
  subst h1 h4 h5;obtain⟨W,D,q⟩:=O6 h6;have a1:=q.Ry;have a2:=q.OM;have a3:=q.jM;have a4:=q.jD;have a5:=q.wide;have b1:=h3.tok;have b2:=h3.wide;have b3:=h3.jM;have b4:=h3.jD;have b5:=h3.jy;have e1:mP ((z,f)::zs)=z.jM+3+mP zs:=by simp[mP]
  have e2:lT ((z,f)::zs)=z.jD+1+lT zs:=by simp[lT]
  refine⟨max W z.wide,max D z.deep,⟨by omega,by omega,by omega,by omega,λ_=>⟨by omega,by omega⟩,λp hp=>?_,by omega,λp hp=>?_,λhc=>?_,λh=>by cases h⟩⟩
  .rcases dh.1 hp with rfl|hp
   .exact h2.give.pq
   .exact q.pq p hp
  .rcases dh.1 hp with rfl|hp
   .exact⟨by show z.wide<=_;omega,by show z.deep<=_;omega⟩
   .have:=q.each p hp;omega
  .obtain⟨c1,c2⟩:=q.all (by omega);obtain⟨d1,d2⟩:=h3.all (by omega);have hlen:((b::bs).length:Int)=bs.length+1:=by simp
   refine⟨by omega,jh ?_⟩;rcases gX D z.deep with hh|hh
   .rw[gG hh];omega
   .rw[gV hh];rcases c2 with c2|c2
    .have:=(q.none c2).1;subst this;have:z.deep=0:=by omega
     rw[this]at d2;have h80:(8^0:Nat)=1:=rfl;rw[h80]at d2⊢;omega
    .omega
theorem ZQ{c:Ck}{t:jm}{ta ea one want:Int}{e:Ex}(hl:∀ck,kZ e ck->e.does.look ck=ck)(h:(c.bracket t ta e.does ea one want).en=0):kZ e (c.add t one false)/\e.does.jU (c.add t one false).jA=want/\c.bracket t ta e.does ea one want=c/\c.en=0:=by
 have h:=h;have e0:c.bracket t ta e.does ea one want=((e.does.look ((c.mD t ta).add t one false)).want (e.does.jU ((c.mD t ta).add t one false).jA) ea want).cut c.jA.length:=rfl;obtain⟨q1,q2,q3⟩:=zQ h;have q4:=hl _ q3;have q5:(c.mD t ta).en=0:=by
  have q3':=q3;rw[q4]at q3';exact q3'
 obtain⟨_,q6,q7⟩:=VE q5;rw[q6]at q1 q3 q4 q2;refine⟨q3,q1,?_,q7⟩;rw[e0,q6,q2,q4];show(⟨(c.jA++[(⟨t,one,false⟩:Kn)]).take c.jA.length,c.en,c.ea⟩:Ck)=c;rw[iM]
theorem Ql{kind:Int}:∀{fs:List (Wd×Ex)}{ck:Ck},(∀b∈fs,∀ck,kZ b.2 ck->b.2.does.look ck=ck)->(nM kind fs ck).en=0->nM kind fs ck=ck/\∀b∈fs,kZ b.2 (ck.add b.1.text kind false)/\b.2.does.jU (ck.add b.1.text kind false).jA=2
 |[],ck,_,_=>⟨rfl,by simp⟩
 |b::fs,ck,hl,h=>by
  have e:nM kind (b::fs) ck=nM kind fs (ck.bracket b.1.text b.1.at' b.2.does b.2.at' kind 2):=rfl;rw[e]at h⊢;obtain⟨q1,q2⟩:=Ql (λc hc=>hl c (aI _ hc)) h;rw[q1]at h;obtain⟨r1,r2,r3,r4⟩:=ZQ (hl b (aW ..)) h;rw[q1];rw[r3]at q2⊢;refine⟨rfl,λc hc=>?_⟩;rcases dh.1 hc with rfl|hc
  .exact⟨r1,r2⟩
  .exact q2 c hc
theorem O8:∀{fs:List (Wd×Ex)}{zs:List (Sz×Val)}{tf cs:Int},AV fs zs tf cs->∀b∈fs,∀ck,kZ b.2 ck->b.2.does.look ck=ck
 |[],_,_,_,_,b,hb,_,_=>by simp at hb
 |_::_,_,_,_,⟨_,_,_,_,_,_,_,h2,_,_,_,h6⟩,b,hb,ck,hk=>by
  rcases dh.1 hb with rfl|hb
  .exact h2.look ck hk
  .exact O8 h6 b hb ck hk
theorem O9{ck:Ck}{kind:Int}:∀{fs:List (Wd×Ex)}{zs:List (Sz×Val)}{tf cs:Int},AV fs zs tf cs->(∀b∈fs,kZ b.2 (ck.add b.1.text kind false))->zh ck kind fs zs
 |[],_,_,_,⟨h1,_,_⟩,_=>h1
 |b::bs,_,_,_,⟨z,f,zs,t,ts,cs,h1,h2,h3,h4,h5,h6⟩,hl=>
  ⟨z,f,zs,h1,h2.give.of λwB e=>by rw[e];exact hl b (aW ..),O9 h6 λc hc=>hl c (aI _ hc)⟩
def og:List (Wd×Ex)->List (Sz×Val)->List (Sz×Val)
 |b::bs,p::zs=>if b.2.does.fd.lI true then og bs zs else p::og bs zs
 |_,_=>[]
theorem aa0(b:Wd×Ex)(bs:List (Wd×Ex)):qI (b::bs)=if b.2.does.fd.lI true then qI bs else (b.1,{b.2 with does:=b.2.does.fd.dn})::qI bs:=by
 unfold qI;rw[List.filter_cons];cases b.2.does.fd.lI true<;>simp
theorem O7{ck:Ck}{kind:Int}:∀{fs:List (Wd×Ex)}{zs:List (Sz×Val)}{tf cs:Int},AV fs zs tf cs->(∀b∈fs,kZ b.2 (ck.add b.1.text kind false))->zh ck kind (qI fs) (og fs zs)
 |[],_,_,_,⟨h1,_,_⟩,_=>by
  subst h1
  rfl
 |b::bs,_,_,_,⟨z,f,zs,t,ts,cs,h1,h2,h3,h4,h5,h6⟩,hl=>by
  subst h1;have ih:=O7 h6 λc hc=>hl c (aI _ hc);rw[aa0];unfold og;split
  .exact ih
  .exact⟨z,f,og bs zs,rfl,h2.fold.of λwB e=>by rw[e];exact hl b (aW ..),ih⟩
theorem Ho:∀{fs:List (Wd×Ex)}{zs:List (Sz×Val)},∀p∈og fs zs,p∈zs
 |[],_,p,hp=>by simp[og]at hp
 |_::_,[],p,hp=>by simp[og]at hp
 |b::bs,q::zs,p,hp=>by
  unfold og at hp;split at hp
  .exact aI _ (Ho p hp)
  .rcases dh.1 hp with rfl|hp
   .exact aW ..
   .exact aI _ (Ho p hp)
theorem OZ:∀{fs:List (Wd×Ex)}{zs:List (Sz×Val)}{tf cs:Int},AV fs zs tf cs->lT (og fs zs)<=lT zs/\mP (og fs zs)<=mP zs/\0<=mP (og fs zs)/\0<=lT (og fs zs)
 |[],_,_,_,⟨h1,_,_⟩=>by
  subst h1;simp[og,lT,mP]
 |b::bs,_,_,_,⟨z,f,zs,t,ts,cs,h1,h2,h3,h4,h5,h6⟩=>by
  subst h1;obtain⟨q1,q2,q3,q4⟩:=OZ h6;have b3:=h3.jM;have b4:=h3.jD;have e1:mP ((z,f)::zs)=z.jM+3+mP zs:=by simp[mP]
  have e2:lT ((z,f)::zs)=z.jD+1+lT zs:=by simp[lT]
  unfold og;split
  .omega
  .have e3:mP ((z,f)::og bs zs)=z.jM+3+mP (og bs zs):=by simp[mP]
   have e4:lT ((z,f)::og bs zs)=z.jD+1+lT (og bs zs):=by simp[lT]
   omega
theorem pJ.know{ck:Ck}{e:List (jm×Int)}{σ:Int->Int}(h:pJ ck e σ){t:jm}{kind i:Int}{iv:Bool}(hi:jO i)(hk:kind=2->i=0\/i=1):pJ (ck.add t kind iv) (e++[(t,i)]) σ:=by
 have hl:ck.jA.length=e.length:=by have:=congrArg List.length h.jA;simpa using this
 refine⟨h.jG,?_,λj k n hj hn=>?_⟩
 .show(ck.jA++[(⟨t,kind,iv⟩:Kn)]).map (λk=>k.name.data.toList)=_;rw[dF,dF,h.jA]
  rfl
 .have hj:(ck.jA++[(⟨t,kind,iv⟩:Kn)])[j]? =some k:=hj;rcases dG j ck.jA.length with hlt|hge
  .rw[aT hlt]at hj;rw[aT (by omega)]at hn;exact h.vals j k n hj hn
  .rw[bW hge]at hj;rw[bW (by omega)]at hn;rcases gJ (j-ck.jA.length)with h0|h0
   .rw[h0]at hj;rw[show j-e.length=0 by omega]at hn;simp only[dw,bJ]at hj hn;subst hj hn;exact⟨hi,hk⟩
   .rw[bV (by simp;omega)]at hj;cases hj
theorem U4{ck:Ck}{kind:Int}(hk:kind≠2){en:List (jm×Int)}{v:Vw}{σ:Int->Int}(ht:pJ ck en σ)(hv:nH v){i:Int}(hi:0<=i/\i<64):∀{fs:List (Wd×Ex)}{zs:List (Sz×Val)}{tf cs:Int},AV fs zs tf cs->(∀b∈fs,kZ b.2 (ck.add b.1.text kind false))->ny (qI fs) (og fs zs) en v σ i=ny fs zs en v σ i
 |[],_,_,_,_,_=>rfl
 |b::bs,_,_,_,⟨z,f,zs,t,ts,cs,h1,h2,h3,h4,h5,h6⟩,hl=>by
  subst h1;have ih:=U4 hk ht hv hi h6 λc hc=>hl c (aI _ hc);rw[aa0];unfold og;by_cases hT:b.2.does.fd.lI true=true
  .rw[jl hT,jl hT];have hval:=(zF h2 hT (hl b (aW ..))).1 (en++[(b.1.text,i)]) v σ (ht.know (by unfold jO;omega) λe=>jq e hk) hv;simp only[dM]at hval;have:ny (b::bs) ((z,f)::zs) en v σ i=ny bs zs en v σ i:=by simp[ny,hval]
   rw[this];exact ih
  .rw[jk hT,jk hT];simp only[ny];rw[ih]
theorem O4{α β:Type}{g h:β->α->β}:∀{l:List α}{a:β},(∀i∈l,∀b,g b i=h b i)->l.foldl g a=l.foldl h a
 |[],_,_=>rfl
 |i::l,a,hh=>by
  rw[bP,bP,hh i (aW ..)];exact O4 λj hj=>hh j (aI _ hj)
theorem Tt:∀(n:Nat)(x:Int),0<=x->x<18446744073709551616->∀i∈Bq n x,0<=i/\i<64
 |0,_,_,_,i,h=>by simp[Bq]at h
 |n+1,x,h0,h1,i,h=>by
  unfold Bq at h;split at h
  .simp at h
  .rename_i hx;rcases dh.1 h with rfl|h
   .exact Xc (by omega) h1
   .have:=Lm (x:=x) (by omega) h1;exact Tt n _ this.1 (by omega) i h
theorem Qx(v:Vw)(list:Int):∀i∈Am v list,0<=i/\i<64:=by
 have hu:=EU (bits .and .i64 (v.all list) (v.all list));exact Tt _ _ hu.1 hu.2
theorem ail:∀n:Fin 9,(bitsOf (pU (bits .and .i64 (tk n.val) (tk n.val)))).foldl vJ 0=tk n.val:=by decide+kernel
theorem aik:∀n:Fin 17,(bitsOf (pU (bits .and .i64 (tk n.val) (tk n.val)))).foldl vJ 0=tk n.val:=by decide+kernel
theorem aij:∀n:Fin 17,(bitsOf (pU (bits .and .i64 (wrap64 (tk n.val * 65536)) (wrap64 (tk n.val * 65536))))).foldl vJ 0=wrap64 (tk n.val * 65536):=by decide+kernel
theorem ahs{v:Vw}(hv:v.small)(list:Int):(Am v list).foldl vJ 0=v.all list:=by
 obtain⟨h1,h2,h3⟩:=hv;unfold Am Hx.Vw.all;split
 .exact ail ⟨v.pO.length,by omega⟩
 .split
  .exact aik ⟨v.qB.length,by omega⟩
  .exact aij ⟨v.qy.length,by omega⟩
theorem afj{ck:Ck}{kind list:Int}(hk:kind≠2){en:List (jm×Int)}{v:Vw}{σ:Int->Int}(ht:pJ ck en σ)(hv:nH v){fs:List (Wd×Ex)}{zs:List (Sz×Val)}{tf cs:Int}(h:AV fs zs tf cs)(hl:∀b∈fs,kZ b.2 (ck.add b.1.text kind false)):uY list (qI fs) (og fs zs) en v σ=uY list fs zs en v σ:=by
 unfold uY;by_cases h0:fs.length=0
 .have:fs=[]:=dW h0;subst this
  rfl
 .rw[jk h0];have hsame:(Am v list).foldl (λacc i=>if ny fs zs en v σ i then vJ acc i else acc) 0=(Am v list).foldl (λacc i=>if ny (qI fs) (og fs zs) en v σ i then vJ acc i else acc) 0:=O4 λi hi b=>by rw[U4 hk ht hv (Qx v list i hi) h hl]
  rw[hsame];by_cases h1:(qI fs).length=0
  .have:qI fs=[]:=dW h1;rw[jl h1,this,<-ahs hv.2 list];exact(O4 λi _ b=>by simp[ny]).symm
  .rw[jk h1]
structure CP(x:Sx)(ts:Int):Prop where
 ex:∃zs tf cs,AV x.jF zs tf cs/\ts=1+tf/\(x.jy<=1000000->1+(if x.of=3 then 8 else 16) * cs<=x.jy)
 of:x.of=3\/x.of=4
 base:Hx.kQ (jQ x.base)=if x.of=3 then 8 else 16
 jy:0<=x.jy/\x.jy<=1000001
theorem aqh{list:Int}{fs:List (Wd×Ex)}{zs:List (Sz×Val)}{en:List (jm×Int)}{v:Vw}{σ:Int->Int}:jO (uY list fs zs en v σ):=by
 have key:∀(l:List Int)(a:Int),jO a->jO (l.foldl (λacc i=>if ny fs zs en v σ i then vJ acc i else acc) a):=by
  intro l;induction l with
  |nil=>intro a h;exact h
  |cons i l ih=>
   intro a h;rw[bP];apply ih;split
   .exact Js _ _ _
   .exact h
 unfold uY;split
 .unfold Hx.Vw.all tk;split
  .exact Dh _
  .split<;>exact Dh _
 .exact key _ _ Di
theorem OY{fs:List (Wd×Ex)}(h:fs.length=0):(qI fs).length=0:=by
 rw[dW h]
 rfl
theorem Zw{x:Sx}{ts:Int}(h:CP x ts)(kind:Int)(hk2:kind≠2)(what:jm):QX (ts+2) (xW kind what x):=by
 obtain⟨zs,tf,cs,h1,h2,h3⟩:=h.ex;obtain⟨W,D,q⟩:=O6 h1;have hof:x.of≠2:=by have:=h.of;omega
 have hlk:∀ck,kZ (xW kind what x) ck->(xW kind what x).does.look ck=ck/\∀b∈x.jF,kZ b.2 (ck.add b.1.text x.of false):=λck hk=>by
  obtain⟨a1,a2⟩:=Ql (O8 h1) (show(nM x.of x.jF ck).en=0 from hk);exact⟨a1,λb hb=>(a2 b hb).1⟩
 have Ae:=Zq (P:=kZ (xW kind what x)) (W:=W) (D:=D) hof what x.base (fs:=x.jF) (zs:=zs) (λck hk=>O9 h1 (hlk ck hk).2) q.pq q.each q.jM.1 q.wide.1;obtain⟨l1,l2,l3,l4⟩:=OZ h1;have hfold:=Zq (P:=kZ (xW kind what x)) (W:=W) (D:=D) hof what x.base (fs:=qI x.jF) (zs:=og x.jF zs) (λck hk=>O7 h1 (hlk ck hk).2) (λp hp=>q.pq p (Ho p hp)) (λp hp=>q.each p (Ho p hp)) l3 q.wide.1;have hls:=Jy (jQ x.base);have qn:=q.jD;have ql:=q.jM;have qw:=q.wide;have qt:=q.Ry;have qc:=q.OM;have hmul:∀a b:Int,a<=b->Hx.kQ (jQ x.base) * a<=Hx.kQ (jQ x.base) * b:=λa b hab=>fB hab (by omega);have hpos:∀a:Int,0<=a->0<=Hx.kQ (jQ x.base) * a:=λa ha=>Int.mul_nonneg (by omega) ha;refine⟨_,_,⟨λck hk=>(hlk ck hk).1,Ae,?_,λck en v σ hk ht hv=>⟨UO hv.1 _ _ _ aqh,λh=>jq h hk2⟩,λh=>jq h (by show¬(0:Int)=1;decide),λh=>jq h (by show¬(0:Int)=2;decide),λh=>jq h (by show¬(0:Int)=3;decide)⟩,?_⟩
 .refine Mx.eq (f:=λen v σ=>outcome v (if what.data.toList==[99,111,117,110,116]then 23 else 24) (uY (jQ x.base) (qI x.jF) (og x.jF zs) en v σ) 0) (hfold.grow (z':=⟨2+W,if x.jF.length=0 then 0 else D+1,(if x.jF.length=0 then 1 else 3+Hx.kQ (jQ x.base) * (lT zs+2))+1,mP zs+25⟩) (by show 2+W<=2+W;omega) ?_ ?_ ?_) Ae.pq λck en v σ hk ht hv=>?_
  .show(if (qI x.jF).length=0 then 0 else D+1)<=if x.jF.length=0 then 0 else D+1;by_cases h0:x.jF.length=0
   .rw[jl h0,jl (OY h0)];exact aj _
   .rw[jk h0];split<;>omega
  .show(if (qI x.jF).length=0 then 1 else 3+Hx.kQ (jQ x.base) * (lT (og x.jF zs)+2))+1<=(if x.jF.length=0 then 1 else 3+Hx.kQ (jQ x.base) * (lT zs+2))+1;by_cases h0:x.jF.length=0
   .rw[jl h0,jl (OY h0)];exact aV _
   .rw[jk h0];have m1:=hmul (lT (og x.jF zs)+2) (lT zs+2) (by omega);have m2:=hpos (lT zs+2) (by omega);split<;>omega
  .show mP (og x.jF zs)+25<=mP zs+25;omega
  .rw[afj hof ht hv h1 (hlk ck hk).2]
 .refine⟨by omega,⟨by show 0<=2+W;omega,by show 2 * (2+W)<=ts+2+1;omega⟩,⟨by show 0<=mP zs+25;omega,by show mP zs+25<=20 * (ts+2);omega⟩,?_,pW h.jy,λhc=>?_⟩
  .show 0<=(if x.jF.length=0 then 1 else 3+Hx.kQ (jQ x.base) * (lT zs+2))+1;have m2:=hpos (lT zs+2) (by omega);split<;>omega
  .have hc:jS [x.jy]<=1000000:=hc;have hp:=yA h.jy.1 h.jy.2 hc;have h4:=h3 (by omega);have hcs:cs<=1000000:=by
    rcases h.of with e|e<;>rw[e]at h4<;>simp at h4<;>omega
   obtain⟨a1,a2⟩:=q.all hcs;show(if x.jF.length=0 then 1 else 3+Hx.kQ (jQ x.base) * (lT zs+2))+1<=40 * jS [x.jy]+1/\((8^(if x.jF.length=0 then 0 else D+1):Nat):Int)<=jS [x.jy]+1;rw[hp];have hxc:=h.jy;by_cases h0:x.jF.length=0
   .rw[jl h0,jl h0];exact⟨by omega,by show((1:Nat):Int)<=_;omega⟩
   .rw[jk h0,jk h0,h.base];have hne:x.jF≠[]:=λe=>h0 (by rw[e];rfl);rcases a2 with a2|a2
    .exact jq a2 hne
    .have e8:((8^(D+1):Nat):Int)=8 * ((8^D:Nat):Int):=by rw[iY,iL];omega
     rw[e8];generalize ((8^D:Nat):Int)=P at *;rcases h.of with e|e<;>rw[e]at h4⊢<;>simp at h4⊢<;>omega
theorem Wv{x:Sx}{c:Int}(h:x.round c<=1000000):x.round c=(if x.of=3 then 8 else 16) * (1+c):=by
 unfold Hx.Sx.round at h⊢;unfold lg at h⊢;simp only[bP,eF]at h⊢;split at h<;>rename_i hh<;>simp only[hh,dM,cZ]<;>omega
theorem ane{w:List UInt8}{acc:Int×Int}{i x:Int}(h:jO acc.1)(hi:jO i):jO (qh w acc i x).1:=by
 unfold qh;by_cases h1:Ag w=true
 .rw[jl h1];split
  .exact hi
  .exact h
 .rw[jk h1];by_cases h2:isMax w=true
  .rw[jl h2];split
   .exact hi
   .exact h
  .rw[jk h2];by_cases h3:Jt w=true
   .rw[jl h3];exact Dh _
   .rw[jk h3];by_cases h4:isAny w=true
    .rw[jl h4];show jO (bits .or .i64 acc.1 x);exact Js _ _ _
    .rw[jk h4];exact h
theorem am1{w:List UInt8}{init list:Int}(hi:jO init){fs:List (Wd×Ex)}{zs:List (Sz×Val)}{t:jm}{f:Val}{en:List (jm×Int)}{v:Vw}{σ:Int->Int}:jO (BL w init list fs zs t f en v σ):=by
 have key:∀(kp:Int->Bool)(x:Int->Int)(l:List Int)(a:Int×Int),(∀i∈l,0<=i/\i<64)->jO a.1->jO (l.foldl (λacc i=>if kp i then qh w acc i (x i)else acc) a).1:=by
  intro kp x l;induction l with
  |nil=>intro a _ h;exact h
  |cons i l ih=>
   intro a hl h;rw[bP];refine ih _ (λj hj=>hl j (aI _ hj)) ?_;cases kp i with
   |true=>exact ane h (by have:=hl i (aW ..);unfold jO;omega)
   |false=>exact h
 unfold BL;exact key (λi=>ny fs zs en v σ i) (λi=>f (en++[(t,i)]) v σ) _ _ (Qx v list) hi
theorem am2{w:List UInt8}{list:Int}(h1:Ag w=false)(h2:isMax w=false)(h3:Jt w=false){fs:List (Wd×Ex)}{zs:List (Sz×Val)}{t:jm}{f:Val}{en:List (jm×Int)}{v:Vw}{σ:Int->Int}(hf:isAny w=true->∀i,0<=i/\i<64->f (en++[(t,i)]) v σ=0\/f (en++[(t,i)]) v σ=1):BL w 0 list fs zs t f en v σ=0\/BL w 0 list fs zs t f en v σ=1:=by
 have step:∀(acc:Int×Int)(i x:Int),(acc.1=0\/acc.1=1)->(isAny w=true->x=0\/x=1)->((qh w acc i x).1=0\/(qh w acc i x).1=1):=λacc i x h hx=>by
  unfold qh;rw[jk (by rw[h1];decide),jk (by rw[h2];decide),jk (by rw[h3];decide)];by_cases h4:isAny w=true
  .rw[jl h4];exact(La _ _ h (hx h4)).2.1
  .rw[jk h4];exact h
 have key:∀(kp:Int->Bool)(x:Int->Int),(isAny w=true->∀i,0<=i/\i<64->x i=0\/x i=1)->∀(l:List Int)(a:Int×Int),(∀i∈l,0<=i/\i<64)->(a.1=0\/a.1=1)->(l.foldl (λacc i=>if kp i then qh w acc i (x i)else acc) a).1=0\/(l.foldl (λacc i=>if kp i then qh w acc i (x i)else acc) a).1=1:=by
  intro kp x hx l;induction l with
  |nil=>intro a _ h;exact h
  |cons i l ih=>
   intro a hl h;rw[bP];refine ih _ (λj hj=>hl j (aI _ hj)) ?_;cases kp i with
   |true=>exact step a i (x i) h λha=>hx ha i (hl i (aW ..))
   |false=>exact h
 unfold BL;exact key (λi=>ny fs zs en v σ i) (λi=>f (en++[(t,i)]) v σ) hf _ _ (Qx v list) (ji rfl)
theorem Vq{x:Sx}{ts te:Int}(h:CP x ts){e:Ex}(he:QX te e)(kd:Int)(what:jm)(t:Wd)(hmk:Ag what.data.toList=true\/isMax what.data.toList=true->kd=3\/kd=4)(hk2:kd=2->Ag what.data.toList=false/\isMax what.data.toList=false/\Jt what.data.toList=false):QX (ts+6+te) (vK kd what x (t,e)):=by
 obtain⟨zs,tf,cs,h1,h2,h3⟩:=h.ex;obtain⟨W,D,q⟩:=O6 h1;obtain⟨ze,fe,m1,m2⟩:=he;have hof:x.of≠2:=by have:=h.of;omega
 have hlk:∀ck,kZ (vK kd what x (t,e)) ck->(vK kd what x (t,e)).does.look ck=ck/\(∀b∈x.jF,kZ b.2 (ck.add b.1.text x.of false))/\kZ e (ck.add t.text x.of false)/\e.does.jU (ck.add t.text x.of false).jA=(if what.data.toList==[97,110,121]then 2 else 1):=λck hk=>by
  have hk:=hk;have e0:(vK kd what x (t,e)).does.look ck=(nM x.of x.jF ck).bracket t.text t.at' e.does e.at' x.of (if what.data.toList==[97,110,121]then 2 else 1):=rfl;obtain⟨b1,b2,b3,b4⟩:=ZQ m1.look hk;obtain⟨a1,a2⟩:=Ql (O8 h1) b4;rw[a1]at b1 b2 b3;rw[e0,a1];exact⟨b3,λb hb=>(a2 b hb).1,b1,b2⟩
 have w1:=q.wide;have w2:=m2.wide;have hE:∀p∈zs,p.1.wide<=max W ze.wide/\p.1.deep<=max D ze.deep:=λp hp=>by have:=q.each p hp;omega
 have Ae:=ac9 (P:=kZ (vK kd what x (t,e))) (kind:=x.of) (kd:=kd) (W:=max W ze.wide) (D:=max D ze.deep) hof what (x:=x) (zs:=zs) (λck hk=>O9 h1 (hlk ck hk).2.1) q.pq hE t (e:=e) (ze:=ze) (fe:=fe) m1.give.pq (λck hk=>m1.give.of λwB e'=>by rw[e'];exact(hlk ck hk).2.2.1) ⟨by omega,by omega⟩ (by omega) hmk;obtain⟨l1,l2,l3,l4⟩:=OZ h1;have hfold:=ac9 (P:=kZ (vK kd what x (t,e))) (kind:=x.of) (kd:=kd) (W:=max W ze.wide) (D:=max D ze.deep) hof what (x:={x with jF:=qI x.jF}) (zs:=og x.jF zs) (λck hk=>O7 h1 (hlk ck hk).2.1) (λp hp=>q.pq p (Ho p hp)) (λp hp=>hE p (Ho p hp)) t (e:={e with does:=e.does.fd.dn}) (ze:=ze) (fe:=fe) m1.fold.pq (λck hk=>m1.fold.of λwB e'=>by rw[e'];exact(hlk ck hk).2.2.1) ⟨by omega,by omega⟩ (by omega) hmk;have hls:=Jy (jQ x.base);have qn:=q.jD;have ql:=q.jM;have qt:=q.Ry;have qc:=q.OM;have mt:=m2.tok;have ml:=m2.jM;have mn:=m2.jD;have mc:=m2.jy;have hmul:∀a b:Int,a<=b->Hx.kQ (jQ x.base) * a<=Hx.kQ (jQ x.base) * b:=λa b hab=>fB hab (by omega);have hpos:∀a:Int,0<=a->0<=Hx.kQ (jQ x.base) * a:=λa ha=>Int.mul_nonneg (by omega) ha;refine⟨_,_,⟨λck hk=>(hlk ck hk).1,Ae,?_,λck en v σ hk ht hv=>⟨am1 (by split<;>(unfold jO;omega)),λhkk=>?_⟩,λh=>jq h (by show¬(0:Int)=1;decide),λh=>jq h (by show¬(0:Int)=2;decide),λh=>jq h (by show¬(0:Int)=3;decide)⟩,?_⟩
 .have hfd:(vK kd what x (t,e)).does.fd.give=(yu kd what {x with jF:=qI x.jF} (t,{e with does:=e.does.fd.dn})).give:=rfl;rw[hfd];refine Mx.eq (f:=BL what.data.toList (if kd=3\/kd=4 then -1 else 0) (jQ x.base) (qI x.jF) (og x.jF zs) t.text fe) (hfold.grow (z':=⟨3+max W ze.wide,max D ze.deep+1,3+Hx.kQ (jQ x.base) * (lT zs+ze.jD+2),mP zs+ze.jM+24⟩) (by show 3+max W ze.wide<=3+max W ze.wide;omega) (by show max D ze.deep+1<=max D ze.deep+1;omega) ?_ ?_) Ae.pq λck en v σ hk ht hv=>?_
  .show 3+Hx.kQ (jQ x.base) * (lT (og x.jF zs)+ze.jD+2)<=3+Hx.kQ (jQ x.base) * (lT zs+ze.jD+2);have:=hmul (lT (og x.jF zs)+ze.jD+2) (lT zs+ze.jD+2) (by omega);omega
  .show mP (og x.jF zs)+ze.jM+24<=mP zs+ze.jM+24;omega
  .unfold BL;have hsame:∀init:Int,((Am v (jQ x.base)).foldl (λacc i=>if ny (qI x.jF) (og x.jF zs) en v σ i then qh what.data.toList acc i (fe (en++[(t.text,i)]) v σ)else acc) (init,0))=((Am v (jQ x.base)).foldl (λacc i=>if ny x.jF zs en v σ i then qh what.data.toList acc i (fe (en++[(t.text,i)]) v σ)else acc) (init,0)):=λinit=>O4 λi hi b=>by rw[U4 hof ht hv (Qx v _ i hi) h1 (hlk ck hk).2.1]
   rw[hsame]
 .have hkk:kd=2:=hkk;obtain⟨n1,n2,n3⟩:=hk2 hkk;have hin:(if kd=3\/kd=4 then (-1:Int)else 0)=0:=jk (by omega);rw[hin];refine am2 n1 n2 n3 λha i hi=>?_;obtain⟨_,_,p3,p4⟩:=hlk ck hk;have ha:(what.data.toList==[97,110,121])=true:=ha;rw[ha,jl rfl]at p4;exact(m1.ty _ _ v σ p3 (ht.know (by unfold jO;omega) λe=>jq e hof) hv).2 p4
 .refine⟨by omega,⟨by show 0<=3+max W ze.wide;omega,by show 2 * (3+max W ze.wide)<=ts+6+te+1;omega⟩,⟨by show 0<=mP zs+ze.jM+24;omega,by show mP zs+ze.jM+24<=20 * (ts+6+te);omega⟩,?_,rC h.jy (uf mc),λhc=>?_⟩
  .show 0<=3+Hx.kQ (jQ x.base) * (lT zs+ze.jD+2);have:=hpos (lT zs+ze.jD+2) (by omega);omega
  .have hrb:=uf (x:=x) mc;have hc:jS [x.jy,x.round e.jy]<=1000000:=hc;have hp:=zJ h.jy.1 h.jy.2 hrb.1 hrb.2 hc;have hxc:=h.jy;have h4:=h3 (by omega);have h5:=Wv (x:=x) (c:=e.jy) (by omega);have hcs:cs<=1000000:=by
    rcases h.of with e|e<;>rw[e]at h4<;>simp at h4<;>omega
   have Jq:e.jy<=1000000:=by
    rcases h.of with e|e<;>rw[e]at h5<;>simp at h5<;>omega
   obtain⟨a1,a2⟩:=q.all hcs;obtain⟨b1,b2⟩:=m2.all Jq;have hlen:(0:Int)<=x.jF.length:=by omega
   show 3+Hx.kQ (jQ x.base) * (lT zs+ze.jD+2)<=40 * jS [x.jy,x.round e.jy]+1/\((8^(max D ze.deep+1):Nat):Int)<=jS [x.jy,x.round e.jy]+1;rw[hp,h.base];have e8:∀d:Nat,((8^(d+1):Nat):Int)=8 * ((8^d:Nat):Int):=λd=>by rw[iY,iL];omega
   have hD:((8^max D ze.deep:Nat):Int)<=max cs (e.jy+1):=by
    rcases gX D ze.deep with hh|hh
    .rw[gG hh];omega
    .rw[gV hh];rcases a2 with a2|a2
     .have:=(q.none a2).1;subst this;have h80:(8^0:Nat)=1:=rfl;rw[h80];omega
     .omega
   rw[e8];generalize ((8^max D ze.deep:Nat):Int)=P at *;rcases h.of with e|e<;>rw[e]at h4 h5⊢<;>simp at h4 h5⊢<;>omega
section
def nP(s:jm)(p q:Ps)(t:Int):Prop:=p.Ok s->q.Ok s/\(q.en=0->p.en=0/\p.k.at'+t<=q.k.at')
variable {s:jm}{p q r:Ps}{t t':Int}
theorem nP.refl(s:jm)(p:Ps):nP s p p 0:=λok=>⟨ok,λh=>⟨h,by omega⟩⟩
theorem nP.trans(h:nP s p q t)(k:nP s q r t'):nP s p r (t+t'):=λok=>by
 obtain⟨o1,h1⟩:=h ok;obtain⟨o2,h2⟩:=k o1;refine⟨o2,λe=>?_⟩;obtain⟨e1,g1⟩:=h2 e;obtain⟨e2,g2⟩:=h1 e1;exact⟨e2,by omega⟩
theorem nP.less(h:nP s p q t)(ht:t'<=t):nP s p q t':=λok=>⟨(h ok).1,λe=>⟨((h ok).2 e).1,by have:=((h ok).2 e).2;omega⟩⟩
theorem rJ(hz:1<=p.k.text.size):nP s p (p.next s) 1:=λok=>⟨ok.next,λe=>⟨e,by have:=Gi ok;omega⟩⟩
theorem Eh(p:Ps):p.fail.en≠0:=by
 unfold Hx.Ps.fail;simp only;split
 .decide
 .assumption
theorem LC(t:Int):nP s p p.fail t:=λok=>⟨ok.fail,λe=>jq e (Eh p)⟩
theorem Ec{u:List UInt8}(hu:u≠[]):nP s p (p.expect s u) 1:=by
 unfold Hx.Ps.expect;split
 .rename_i h;exact rJ (qK hu h)
 .exact LC 1
theorem LG{u:List UInt8}(hu:u≠[]):nP s p (p.jW s u) 1:=by
 unfold Hx.Ps.jW;split
 .exact LC 1
 .exactλok=>⟨⟨(ok.expect u).tok,UN _,(ok.expect u).kinds⟩,(Ec hu ok).2⟩
theorem Lu{u:List UInt8}(hu:u≠[]):nP s p (p.close s u) 1:=λok=>⟨ok.close u,(Ec hu ok).2⟩
theorem LD:nP s p (p.name s).2 1:=λok=>by
 unfold Hx.Ps.name;split
 .rename_i h;exact rJ (ok.kinds.name h) ok
 .exact LC 1 ok
def sU(s:jm)(ex:Ps->Ex×Ps):Prop:=∀p,p.Ok s->∃t,QX t (ex p).1/\nP s p (ex p).2 t
theorem QX.tok{e:Ex}(h:QX t e):1<=t:=by
 obtain⟨_,_,_,h2⟩:=h;exact h2.tok
theorem Qu:QX 1 qR:=agb 0 0 0 (jh rfl) (by decide) false
variable {ex:Ps->Ex×Ps}
theorem ZU(h:sU s ex)(ok:p.Ok s):∃t,QX t (BH s ex p).1/\nP s p (BH s ex p).2 (t+2):=by
 obtain⟨t,q1,q2⟩:=h (p.jW s [40]) (ok.jW [40]);exact⟨t,q1,(((LG (by simp)).trans q2).trans (Lu (by simp))).less (by omega)⟩
theorem Ox(h:sU s ex)(ok:p.Ok s):∃t,QX t (pY s ex p).1.2/\nP s p (pY s ex p).2 (t+4):=by
 have o1:=(ok.jW [40]).name;obtain⟨t,q1,q2⟩:=h ((((p.jW s [40]).name s).2).expect s [58]) (o1.expect [58]);exact⟨t,q1,((((LG (by simp)).trans LD).trans (Ec (by simp))).trans (q2.trans (Lu (by simp)))).less (by omega)⟩
theorem CP.add{x:Sx}{ts:Int}(h:CP x ts){d:Wd}{e:Ex}(he:QX t e):CP (x.add (d,e)) (ts+(6+t)):=by
 obtain⟨zs,tf,cs,h1,h2,h3⟩:=h.ex;obtain⟨z,f,m1,m2⟩:=he;have mc:=m2.jy;have hrb:=uf (x:=x) mc;have hxc:=h.jy;refine⟨⟨zs++[(z,f)],tf+(6+t),cs+(1+e.jy),aa5 h1 m1 m2,by omega,λhc=>?_⟩,h.of,h.base,xQ _ (by simp;exact⟨hxc,hrb⟩)⟩;have hc:lg [x.jy,x.round e.jy]<=1000000:=hc;have ht:=Gv (a:=x.jy) hrb.1 hc;have h4:=h3 (by omega);have h5:=Wv (x:=x) (c:=e.jy) (by omega);show 1+(if x.of=3 then 8 else 16) * (cs+(1+e.jy))<=lg [x.jy,x.round e.jy];rw[ht,h5];rcases h.of with e'|e'<;>rw[e']at h4⊢<;>simp at h4⊢<;>omega
theorem afc(h:sU s ex):∀(n:Nat)(x:Sx)(ts:Int)(p0 p:Ps),CP x ts->nP s p0 p ts->p0.Ok s->∃ts',CP (qM s ex n x p).1.1 ts'/\nP s p0 (qM s ex n x p).2 (if (qM s ex n x p).1.2 then ts'+1 else ts')
 |0,x,ts,p0,p,hx,hp,ok=>⟨ts,hx,hp⟩
 |n+1,x,ts,p0,p,hx,hp,ok=>by
  unfold qM;have Nu:=(hp ok).1;split
  .rename_i hd;have e1:=hp.trans (rJ (qK (by simp) hd));split
   .rename_i hf;have e2:=e1.trans (rJ (qK (by simp) hf));obtain⟨t,b1,b2⟩:=Ox h Nu.next.next;exact afc h n _ (ts+(6+t)) p0 _ (hx.add b1) ((e2.trans b2).less (by omega)) ok
   .exact⟨ts,hx,e1⟩
  .exact⟨ts,hx,hp⟩
theorem aqg{u:List UInt8}{of:Int}(h:setOf u=some of):u≠[]/\Hx.kQ (if u==[70,82,69,83,72]then 1 else if u==[65,71,65,73,78]then 2 else 0)=if of=3 then 8 else 16:=by
 unfold setOf at h;split at h
 .rename_i h1;have e1:u=[82,79,65,68,83]:=by simpa using h1
  subst e1;cases h
  decide
 .split at h
  .rename_i h1;have e1:u=[70,82,69,83,72]\/u=[65,71,65,73,78]:=by simpa using h1
   cases h;rcases e1 with e1|e1<;>subst e1<;>decide
  .cases h
theorem Q8(h:sU s ex)(n:Nat)(ok:p.Ok s):(∃ts,CP (mZ s ex n p).1.1 ts/\nP s p (mZ s ex n p).2 (if (mZ s ex n p).1.2 then ts+1 else ts))\/((mZ s ex n p).1.2=false/\(mZ s ex n p).2=p.fail):=by
 unfold mZ;cases hs:setOf p.k.text.data.toList with
 |none=>exact jh ⟨rfl,rfl⟩
 |some of=>
  left;obtain⟨b1,b2⟩:=aqg hs;have hx:CP ⟨p.k.at',1,p.k.text,of,[]⟩ 1:=⟨⟨[],0,0,⟨rfl,rfl,rfl⟩,by omega,λ_=>by show 1+(if of=3 then 8 else 16) * (0:Int)<=1;omega⟩,Q9 hs,b2,by show(0:Int)<=1/\(1:Int)<=1000001;decide⟩;exact afc h n _ 1 p (p.next s) hx (rJ (J5 b1 rfl)) ok
theorem apd(h:sU s ex)(n:Nat)(ok:p.Ok s):∃t,QX t (yB s ex n p).1/\nP s p (yB s ex n p).2 t:=by
 unfold yB;split
 .rename_i hf;rcases Q8 h n ok with⟨ts,h1,h2⟩|⟨h1,_⟩
  .rw[jl hf]at h2;generalize (mZ s ex n p).1.1=x at *;generalize (mZ s ex n p).2=q at *;have JW:=(h2 ok).1;have hof:=h1.of;unfold zL;by_cases c1:q.is [99,111,117,110,116]=true
   .rw[jl c1];exact⟨ts+2,Zw h1 1 (by decide) _,(h2.trans (rJ (qK (by simp) c1))).less (by omega)⟩
   .rw[jk c1];by_cases c2:q.is [102,105,114,115,116]=true
    .rw[jl c2];exact⟨ts+2,Zw h1 x.of (by omega) _,(h2.trans (rJ (qK (by simp) c2))).less (by omega)⟩
    .rw[jk c2];by_cases c3:(q.is [109,105,110]||q.is [109,97,120])=true
     .rw[jl c3];obtain⟨t,b1,b2⟩:=Ox h JW.next;have hz:1<=q.k.text.size:=by
       rcases Bool.or_eq_true_iff.1 c3 with c|c
       .exact qK (by simp) c
       .exact qK (by simp) c
      exact⟨ts+6+t,Vq h1 b1 x.of q.k.text (pY s ex (q.next s)).1.1 (λ_=>hof) (λe=>by omega),((h2.trans (rJ hz)).trans b2).less (by omega)⟩
     .rw[jk c3];by_cases c4:q.is [115,117,109]=true
      .rw[jl c4];obtain⟨t,b1,b2⟩:=Ox h JW.next;have e4:=Dk c4;exact⟨ts+6+t,Vq h1 b1 1 q.k.text (pY s ex (q.next s)).1.1 (λe=>by rw[e4]at e;rcases e with e|e<;>exact jq e (by decide)) (λe=>by omega),((h2.trans (rJ (qK (by simp) c4))).trans b2).less (by omega)⟩
      .rw[jk c4];by_cases c5:q.is [97,110,121]=true
       .rw[jl c5];obtain⟨t,b1,b2⟩:=Ox h JW.next;have e5:=Dk c5;exact⟨ts+6+t,Vq h1 b1 2 q.k.text (pY s ex (q.next s)).1.1 (λe=>by rw[e5]at e;rcases e with e|e<;>exact jq e (by decide)) (λ_=>by rw[e5];decide),((h2.trans (rJ (qK (by simp) c5))).trans b2).less (by omega)⟩
       .rw[jk c5];exact⟨1,Qu,λok'=>⟨JW.fail,λe=>jq e (Eh q)⟩⟩
  .rw[h1]at hf;cases hf
 .have JW:(mZ s ex n p).2.Ok s:=by
   rcases Q8 h n ok with⟨ts,h1,h2⟩|⟨_,h2⟩
   .exact(h2 ok).1
   .rw[h2];exact ok.fail
  exact⟨1,Qu,λok'=>⟨JW.fail,λe=>jq e (Eh _)⟩⟩
theorem ahE(h:sU s ex)(n:Nat)(ok:p.Ok s):∃t,QX t (rX s ex n p).1/\nP s p (rX s ex n p).2 t:=by
 unfold rX;by_cases c1:p.k.kind=3
 .rw[jl c1];obtain⟨k1,k2,k3⟩:=ok.kinds.number c1;refine⟨1,anI _ _ ?_,rJ k1⟩;cases ha:Lib.atoi p.k.text.data.toList with
  |none=>exact Di
  |some m=>
   have:=Lib.atoi_bound ha (by rw[eX];exact k2);show jO m;unfold jO;omega
 rw[jk c1];by_cases c2:p.k.kind=4
 .rw[jl c2];obtain⟨x,k1,k2,k3⟩:=ok.kinds.register c2;refine⟨1,apI _ _ ?_,rJ (J5 (by simp) k1)⟩;rw[k1];show 0<=((x.toNat:Int)-48)/\((x.toNat:Int)-48)<8;omega
 rw[jk c2];by_cases c3:p.k.kind=2
 .rw[jl c3];exact⟨1,arN _ _,rJ (ok.kinds.name c3)⟩
 rw[jk c3];by_cases c4:(p.is [116,114,117,101]||p.is [102,97,108,115,101])=true
 .rw[jl c4];refine⟨1,agb _ 1 2 (ji rfl) (by decide) _,rJ ?_⟩;rcases Bool.or_eq_true_iff.1 c4 with c|c
  .exact qK (by simp) c
  .exact qK (by simp) c
 rw[jk c4];by_cases c5:p.is [40]=true
 .rw[jl c5];obtain⟨t,q1,q2⟩:=ZU h ok;exact⟨t,arT q1 _,q2.less (by omega)⟩
 rw[jk c5];by_cases c6:p.is [105,115,110,111,110,101]=true
 .rw[jl c6];obtain⟨t,q1,q2⟩:=ZU h ok.next;exact⟨t+1,alj q1 _,((rJ (qK (by simp) c6)).trans q2).less (by omega)⟩
 rw[jk c6];by_cases c7:(setOf p.k.text.data.toList).isSome=true
 .rw[jl c7];exact apd h n ok
 rw[jk c7];exact⟨1,Qu,LC 1⟩
theorem Tm(h:sU s ex)(a:Int):∀(n:Nat)(e:Ex)(t:Int)(p0 p:Ps),QX t e->nP s p0 p t->p0.Ok s->∃t',QX t' (qA s ex a n e p).1/\nP s p0 (qA s ex a n e p).2 t'
 |0,e,t,p0,p,he,hp,ok=>⟨t,he,hp⟩
 |n+1,e,t,p0,p,he,hp,ok=>by
  unfold qA;have Nu:=(hp ok).1;split
  .rename_i hd;simp only;have e1:=hp.trans (rJ (qK (by simp) hd));have e2:=e1.trans LD;split
   .obtain⟨t2,q1,q2⟩:=h (((p.next s).name s).2.jW s [40]) (((Nu.next).name).jW [40]);exact Tm h a n _ (t+1+t2) p0 _ (anR he q1 a) (((e2.trans (LG (by simp))).trans (q2.trans (Lu (by simp)))).less (by omega)) ok
   .exact Tm h a n _ (t+1) p0 _ (aoN he a _) (e2.less (by omega)) ok
  .exact⟨t,he,hp⟩
theorem ZH(h:sU s ex)(n:Nat)(ok:p.Ok s):∃t,QX t (xY s ex n p).1/\nP s p (xY s ex n p).2 t:=by
 obtain⟨t,q1,q2⟩:=ahE h n ok;exact Tm h _ n _ t p _ q1 q2 ok
theorem Vx(h:sU s ex)(n:Nat):∀(m:Nat)(p:Ps),p.Ok s->∃t,QX t (qQ s ex n m p).1/\nP s p (qQ s ex n m p).2 t
 |0,p,ok=>ZH h n ok
 |m+1,p,ok=>by
  unfold qQ;split
  .rename_i hd;obtain⟨t,q1,q2⟩:=Vx h n m (p.next s) ok.next;exact⟨t+1,anb q1 _ _ (Dk hd),((rJ (qK (by simp) hd)).trans q2).less (by omega)⟩
  .split
   .rename_i hd;obtain⟨t,q1,q2⟩:=Vx h n m (p.next s) ok.next;exact⟨t+1,anA q1 _ _ (Dk hd),((rJ (qK (by simp) hd)).trans q2).less (by omega)⟩
   .exact ZH h n ok
theorem al9{u:jm}{of:Int}(ho:of<=5)(h:oL u.data.toList=of):1<=u.size:=by
 by_cases h0:u.size=0
 .have h4:=h0;have he:u=⟨#[]⟩:=jd (fO h4);rw[he]at h;have:oL (⟨#[]⟩:jm).data.toList=6:=rfl;omega
 .omega
theorem adT{lower:Ps->Ex×Ps}(hl:sU s lower)(of a:Int)(ho:of<=5):∀(n:Nat)(e:Ex)(t:Int)(p0 p:Ps),QX t e->nP s p0 p t->p0.Ok s->∃t',QX t' (sF s lower of a n e p).1/\nP s p0 (sF s lower of a n e p).2 t'
 |0,e,t,p0,p,he,hp,ok=>⟨t,he,hp⟩
 |n+1,e,t,p0,p,he,hp,ok=>by
  unfold sF;have Nu:=(hp ok).1;split
  .rename_i hd;simp only;obtain⟨t2,q1,q2⟩:=hl (p.next s) Nu.next;have e1:=((hp.trans (rJ (al9 ho hd))).trans q2);have hq:=arC he q1 a p.k.text;split
   .exact⟨t+1+t2,hq,e1⟩
   .exact adT hl of a ho n _ (t+1+t2) p0 _ hq e1 ok
  .exact⟨t,he,hp⟩
theorem VT(h:sU s ex)(n:Nat):∀(l:Nat),sU s (yx s ex n l)
 |0,p,ok=>Vx h n n p ok
 |l+1,p,ok=>by
  obtain⟨t,q1,q2⟩:=VT h n l p ok;exact adT (VT h n l) _ _ (by omega) n _ t p _ q1 q2 ok
theorem TR(s:jm):∀d:Nat,sU s (vF s d)
 |0,_,_=>⟨1,Qu,LC 1⟩
 |d+1,p,ok=>VT (TR s d) _ 6 p ok
end
structure oz where
 env:List (jm×Int)
 jG:Int->Int
 jP:List (Int×Int)
abbrev mG:=Vw->oz->Option oz⊕oz
structure uO(c:Co)(m:Mc)(p:oz):Prop where
 env:lu c m.get=p.env
 jG:∀i,0<=i->i<8->m.get i=p.jG i
 jP:m.jP=p.jP
structure Ctx(c:Co):Prop where
 free:c.free=8+c.jA.length
 jE:∀(j:Nat)(n:jm×Int),c.jA[j]? =some n->n.2=8+j
def nO(ck:Ck)(p:oz):Prop:=pJ ck p.env p.jG
theorem uO.ty{ck:Ck}{c:Co}{m:Mc}{p:oz}(h:uO c m p)(hf:Fit ck c)(ht:nO ck p):Ty ck c m.get:=by
 have hl:=hf.lens;have hv:∀(j:Nat)(n:jm×Int),c.jA[j]? =some n->p.env[j]? =some (n.1,m.get n.2):=λj n hn=>by
  rw[<-h.env,lu,fV,hn]
  rfl
 refine⟨λi h0 h1=>by rw[h.jG i h0 h1];exact ht.jG i h0 h1,λn hn=>?_,λj k n hk hn hd=>(ht.vals j k _ hk (hv j n hn)).2 hd⟩;obtain⟨j,hj⟩:=List.mem_iff_getElem?.1 hn;have hlt:j<ck.jA.length:=by
  have:=(List.getElem?_eq_some_iff.1 hj).1;omega
 exact(ht.vals j _ _ (bU hlt) (hv j n hj)).1
theorem uO.val{c:Co}{m:Mc}{p:oz}(h:uO c m p){f:Val}(hc:uj f)(v:Vw):f (lu c m.get) v m.get=f p.env v p.jG:=by
 rw[h.env];exact hc _ _ _ _ h.jG
def wP(c':Co)(d:Nat)(v:Vw)(S:List St)(jG:List Int)(k:Nat)(m:Mc)(lC:Nat):Option oz⊕oz->Prop
 | .inr p=>∃m',Reaches v S jG k m lC m'/\uO c' m' p/\m'.jE.length=m.jE.length/\m'.left.length=m.left.length/\∀j:Nat,j<d->m'.mV j=m.mV j
 | .inl none=>Bh v S jG k m ⟨1,jG,[]⟩
 | .inl (some p)=>∃o,Bh v S jG k m o/\o.status=0/\(∀i:Nat,i<8->o.jG.getD i 0=p.jG i)/\o.jP=p.jP
theorem wP.before{c':Co}{d:Nat}{v:Vw}{S:List St}{jG:List Int}{k k1:Nat}{m m1:Mc}{lC:Nat}{r:Option oz⊕oz}(h:wP c' d v S jG k1 m1 lC r)(hg:Reaches v S jG k m k1 m1)(hl:m1.jE.length=m.jE.length)(hll:m1.left.length=m.left.length)(hlf:∀j:Nat,j<d->m1.mV j=m.mV j):wP c' d v S jG k m lC r:=by
 cases r with
 |inr p=>
  obtain⟨m',a1,a2,a3,a4,a5⟩:=h;exact⟨m',hg.trans a1,a2,a3.trans hl,a4.trans hll,λj hj=>(a5 j hj).trans (hlf j hj)⟩
 |inl q=>
  cases q with
  |none=>exact hg.stops h
  |some p=>
   obtain⟨o,a1,a2⟩:=h;exact⟨o,hg.stops a1,a2⟩
structure Xt(c:Co)(z:Sz)(fr:Fr):Prop where
 ok:fr.Ok false
 jD:fr.jD<=z.jD
 deep:fr.deep<=z.deep
 jM:((jX fr.is).length:Int)<=z.jM
 low:kY fr.is (c.free+z.wide)
def yG(ck:Ck)(c c':Co)(fr:Fr)(F:mG):Prop:=
 ∀(v:Vw)(S:List St)(jG:List Int)(k:Nat)(lp:List Int)(m:Mc)(p:oz),nH v->sK S k (fr.jC k lp)->lp.length+fr.deep<=8->m.left.length=8->kY fr.is m.jE.length->uO c m p->nO ck p->wP c' lp.length v S jG k m (k+fr.size) (F v p)
def Ms(lk:Ck->Ck)(g:Co->Co)(z:Sz)(F:mG):Prop:=
 ∀(ck:Ck)(c:Co),Fit ck c->Ctx c->(lk ck).en=0->c.free+z.wide<=2008->
  ∃(fr:Fr)(more:List (jm×Int)),g c=⟨c.code++jX fr.is,c.jA++more,c.free+more.length⟩/\more.length<=1/\Ctx (g c)/\Fit (lk ck) (g c)/\Xt c z fr/\yG ck c (g c) fr F
structure MS(s:jK)(z:Sz)(F:mG):Prop where
 look:∀ck,(s.does.look ck).en=0->ck.en=0/\∃more,s.does.look ck=⟨ck.jA++more,ck.en,ck.ea⟩
 lay:Ms s.does.look s.does.lay z F
 fold:s.does.fs.idle=false->Ms s.does.look s.does.fs.lay z F
 ty:∀ck v p p',(s.does.look ck).en=0->nO ck p->nH v->F v p=.inr p'->nO (s.does.look ck) p'
 idle:s.does.fs.idle=true->∀ck,(s.does.look ck).en=0->s.does.look ck=ck/\∀v p,nO ck p->nH v->F v p=.inr p
 ends:s.does.fs.ends=true->∀ck v p,(s.does.look ck).en=0->nO ck p->nH v->∃r,F v p=.inl r
theorem JB{s:jK}{ck:Ck}(h:s.does.look ck=ck)(hk:(s.does.look ck).en=0):ck.en=0/\∃more,s.does.look ck=⟨ck.jA++more,ck.en,ck.ea⟩:=by
 rw[h]at hk;exact⟨hk,[],by rw[h];simp⟩
structure Oh(t:Int)(s:jK)(z:Sz):Prop where
 tok:2<=t
 wide:1<=z.wide/\2 * z.wide<=t
 jM:0<=z.jM/\z.jM<=20 * t
 jD:0<=z.jD
 jy:1<=s.jy/\s.jy<=1000001
 all:s.jy<=1000000->z.jD<=40 * s.jy/\((8^z.deep:Nat):Int)<=s.jy+1
def QS(t:Int)(s:jK):Prop:=∃z F,MS s z F/\Oh t s z
theorem FN{c:Co}(h:Ctx c){code:List Int}{more:List (jm×Int)}(hm:more=[]):Ctx ⟨code,c.jA++more,c.free+more.length⟩:=by
 subst hm;exact⟨by show c.free+((0:Nat):Int)=8+((c.jA++[]).length:Int);rw[aX];have:=h.free;omega,by show∀j n,(c.jA++[])[j]? =some n->_;rw[aX];exact h.jE⟩
theorem FT{ck:Ck}{c:Co}(h:Fit ck c){code:List Int}{more:List (jm×Int)}(hm:more=[]):Fit ck ⟨code,c.jA++more,c.free+more.length⟩:=by
 subst hm;have:(⟨code,c.jA++[],c.free+(([]:List (jm×Int)).length:Nat)⟩:Co)=⟨code,c.jA,c.free⟩:=by simp
 rw[this];exact h.more (aV _)
theorem aau{a b:Int}(h0:0<=a/\a<2008)(h1:0<=b/\b<2008):qN ⟨7,[a,b]⟩:=
 ⟨⟨by show(0:Int)<=7;omega,by show(7:Int)<=36;omega⟩,a,[b],rfl,qV h0.1 h0.2,b,[],rfl,qV h1.1 h1.2,rfl⟩
theorem afM{P:Ck->Prop}{g:Co->Int->Co×Int}{z:Sz}{f:Val}(h:Mx P g z f){ck:Ck}{c:Co}{slot:Int}(hf:Fit ck c)(hP:P ck)(hz:0<=z.wide)(hw:c.free+z.wide<=2008)(hs:0<=slot/\slot<c.free):
 ∃fr:Fr,c.store slot {give:=g}=⟨c.code++jX fr.is,c.jA,c.free⟩/\Xt c ⟨z.wide,z.deep,z.jD+1,z.jM+5⟩ fr/\
  ∀(v:Vw)(S:List St)(jG:List Int)(k:Nat)(lp:List Int)(m:Mc),nH v->sK S k (fr.jC k lp)->lp.length+fr.deep<=8->m.left.length=8->kY fr.is m.jE.length->Ty ck c m.get->
   ∃m',Reaches v S jG k m (k+fr.size) m'/\m'.get slot=f (lu c m.get) v m.get/\oC c.free slot lp.length m m':=by
 have h8:=hf.free;obtain⟨fr,r,f',e,x,w⟩:=h.lay ck c slot hf hP hw (jh hs);have x0:=x.r0;have x1:=x.r1;have x2:=x.f2;have x3:=x.r3;have xn:=x.jD;have xd:=x.deep;have xl:=x.jM;unfold Co.store;simp only;rw[e];simp only;by_cases hr:r=slot
 .rw[jl hr];refine⟨fr,rfl,⟨x.ok,by show fr.jD<=z.jD+1;omega,xd,by show _<=z.jM+5;omega,x.low⟩,λv S jG k lp m hv hS hd hll hl ht=>?_⟩;obtain⟨m',g1,g2,g3⟩:=w v S jG k lp m hv hS hd hll hl ht;exact⟨m',g1,by rw[<-hr];exact g2,g3⟩
 .rw[jk hr];have hins:qN ⟨7,[slot,r]⟩:=aau ⟨hs.1,by omega⟩ ⟨x0,by omega⟩;have ho:rF 7:=by unfold rF;omega
  refine⟨fr.seq (Fr.ins ⟨7,[slot,r]⟩),?_,⟨Fr.ug x.ok (Fr.wW hins (ji (by show(6:Int)<=7;omega)) false),by show fr.jD+1<=z.jD+1;omega,by show max fr.deep 0<=z.deep;omega,?_,?_⟩,λv S jG k lp m hv hS hd hll hl ht=>?_⟩
  .simp only[Co.lay,Co.jZ,Fr.seq,Fr.ins,nI,nk,l9,enc,aX,bY]
  .have:=Jf 7 slot r ⟨hs.1,by omega⟩ ⟨x0,by omega⟩;show((jX (fr.is++[⟨7,[slot,r]⟩])).length:Int)<=z.jM+5;rw[nI,aA];omega
  .refine x.low.append (kY.one ⟨λ_=>?_,λ_=>?_,trivial⟩)
   .show slot+1<=c.free+z.wide;omega
   .show r+1<=c.free+z.wide;omega
  .have hd:lp.length+max fr.deep 0<=8:=hd;obtain⟨m1,g1,g2,g3⟩:=w v S jG k lp m hv hS.left (by omega) hll hl.left ht;have hg:=yh (v:=v) (jG:=jG) (m:=m1) (hS.right (x.ok.size k lp)).head (by show(6:Int)<=7;omega) (by show(7:Int)≠36;omega);rw[ho.work]at hg;have e7:outcome v 7 (m1.get r) 0=m1.get r:=by simp[outcome]
   rw[e7]at hg;refine⟨m1.put slot (m1.get r),g1.trans hg,?_,g3.trans (xO (ji rfl) hs.1)⟩;have:=(hl.right ⟨7,[slot,r]⟩ (by simp[Fr.ins])).1 rfl;rw[vG _ _ _ hs.1 (by rw[g3.len];omega),g2]
end
end Go.Proofs.YthllhabjfchgiaaGreatDoor
