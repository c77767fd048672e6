import Derived.Test.YthllhabjfchgiaaGreatDoorHz26
set_option maxRecDepth 100000
set_option maxHeartbeats 8000000
namespace Go.Proofs.YthllhabjfchgiaaGreatDoor
open _root_.Go.Proofs.Tryz
namespace Hx
open Go.RowKit
structure Lp where
 size:Int
 on:Int
structure Lr where
 cO:Nat
 out:Nat
 nX:Bool
 aT:List Nat
 aX:List Nat
 aQ:List Nat
structure aO where
 r0:Int
 r1:Int
 r2:Int
 r3:Int
 r4:Int
 r5:Int
 r6:Int
 r7:Int
 ah:List Lr
 all:List Lp
 acc:Nat
 dA:Nat
 dN:Nat
 aG:List Nat
 aP:List Nat
 aJ:List Nat
 quiet:Int
 turn:Nat
 bQ:Nat
 kept:List Bool
def lT:Lr:=⟨2,0,false,[],[],[]⟩
def uN(n:Nat):aO:=⟨0,0,0,0,0,0,0,0,List.replicate n lT,[],0,0,0,[],[],[],0,0,0,List.replicate 32 false⟩
def lH(l:List Nat)(x:Int):Option Nat:=l.find? fun q=>(q:Int)==x
def mV(l:List Nat)(x:Int):List Nat:=l.filter fun q=>!((q:Int)==x)
def eY(l:List Nat)(n:Nat):List Nat:=l.filter fun q=>!decide ((q:Int)<(n:Int))
def KQ(l:List Nat):Option Nat:=l.foldl (fun f q=>match f with|none=>some q|some m=>if q<m then some q else some m) none
def aO.write(s:aO)(size:Int):aO×Int:=
 if size<1\/1000<size then (s,6)else if s.aG.length=16 then (s,7)
 else ({s with aG:=s.aG++[s.acc],all:=s.all++[⟨size,0⟩],acc:=s.acc+1},0)
def Lr.send(r:Lr)(q:Nat):Lr:={r with aT:=r.aT++[q],aQ:=r.aQ++[q],out:=r.out+1}
def Af(on:Int)(i:Nat):Int:=bits .or .i64 on (wrap64 (2^i))
def aO.send(s:aO)(q i:Nat):aO:=
 {s with
  aP:=if (lH s.aG q).isSome then s.aP++[q]else s.aP
  aG:=mV s.aG q
  aJ:=mV s.aJ q
  all:=s.all.set q {s.all.getD q ⟨0,0⟩with on:=Af (s.all.getD q ⟨0,0⟩).on i}
  ah:=s.ah.set i ((s.ah.getD i lT).send q)}
def aO.waiting(s:aO)(x:Int):Option Nat:=match lH s.aG x with|some q=>some q|none=>lH s.aJ x
def sH(s:aO)(id:Int):Option Nat:=if id<0\/(s.ah.length:Int)<=id then none else some id.toNat
def aO.act(s:aO)(aK seq:Int):aO:=match sH s aK,s.waiting seq with
 |some i,some q=>match s.ah[i]?with
  |some r=>if r.cO<=r.out then {s with dN:=s.dN+1}else s.send q i
  |none=>s
 |_,_=>{s with dN:=s.dN+1}
def aO.mD(s:aO):aO:=match KQ (s.aP++s.aG)with
 |none=>s
 |some q=>{s.send q s.turn with turn:=(s.turn+1)%s.ah.length}
def Lr.fD(r:Lr)(n:Nat):Lr:={r with aQ:=eY r.aQ n,out:=(eY r.aQ n).length}
def Lr.grow(r:Lr):Lr:={r with cO:=min (r.cO+1) 8,nX:=false}
def Lr.fU(r:Lr):Lr:={r with aQ:=[],out:=0,cO:=max (r.cO/2) 1,nX:=decide (0<r.aQ.length)}
def aO.fD(s:aO)(n:Nat):aO:={s with dA:=n,aP:=eY s.aP n,aJ:=eY s.aJ n,ah:=s.ah.map fun r=>r.fD n,quiet:=-1}
def qj:Nat->Nat->List Bool->Nat×List Bool
 |0,d,k=>(d,k)
 |f+1,d,k=>if k.getD (d%32) false then qj f (d+1) (k.set (d%32) false)else (d,k)
def takes(d:Nat)(k:List Bool)(seq:Nat):Nat×List Bool:=qj 33 d (if d<=seq/\seq<d+32 then k.set (seq%32) true else k)
def aO.lu(s:aO)(aK k:Int):aO×Int:=match sH s aK with
 |none=>(s,6)
 |some i=>match s.ah[i]?with
  |none=>(s,6)
  |some r=>if k<0\/(r.aT.length:Int)<=k then (s,8)else
   let t:=takes s.bQ s.kept (r.aT.getD k.toNat 0)
   ({s with bQ:=t.1,kept:=t.2,ah:=s.ah.set i {r with aX:=r.aX++[t.1]}},0)
def aO.lZ(s:aO)(aK k:Int):aO×Int:=match sH s aK with
 |none=>(s,6)
 |some i=>match s.ah[i]?with
  |none=>(s,6)
  |some r=>if k<0\/(r.aX.length:Int)<=k then (s,8)else
   if s.dA<r.aX.getD k.toNat 0 then ({s.fD (r.aX.getD k.toNat 0)with ah:=(s.fD (r.aX.getD k.toNat 0)).ah.set i (r.fD (r.aX.getD k.toNat 0)).grow},0)else (s,0)
def oW(aJ lost:List Nat):List Nat:=lost.foldl (fun(a:List Nat)(q:Nat)=>if a.length<16/\(lH a (q:Int)).isNone then a++[q]else a) aJ
end Hx
section
open Go.RowKit Hx
section
variable {w w' w2:World}{b o:Nat}{us:List Value}
def nK(w:World)(b o:Nat)(us:List Value):Prop:=∀j u,us[j]? =some u->w.cell? (Ad b (o+j))=some u
theorem nK.same(h:nK w b o us)(hb:w'.heap[b]? =w.heap[b]?):nK w' b o us:=fun j u hj=>(World.cell?_of_block hb).trans (h j u hj)
theorem nK.set(h:nK w b o us){i:Nat}(hi:i<us.length)(v:Value):nK (w.setCell (Ad b (o+i)) v) b o (us.set i v):=fun j u hj=>by
 by_cases hij:j=i
 .subst hij;rw[List.getElem?_set_self hi]at hj;cases hj;exact World.cell?_setCell_same _ _ _ (h j us[j] (by simp))
 .rw[List.getElem?_set_ne (fun e=>hij e.symm)]at hj;rw[World.cell?_setCell_other _ _ _ _ (by intro e;have:=congrArg Addr.off e;simp only at this;omega)];exact h j u hj
theorem nK.other(h:nK w b o us)(b' k:Nat)(v:Value)(hne:b≠b'\/k<o\/o+us.length<=k):nK (w.setCell (Ad b' k) v) b o us:=fun j u hj=>by
 have hjl:=(List.getElem?_eq_some_iff.1 hj).1;rw[World.cell?_setCell_other _ _ _ _ (by intro e;have e1:=congrArg Addr.off e;have e2:=congrArg Addr.block e;simp only at e1 e2;omega)];exact h j u hj
theorem nK.l9(h:nK w b 0 us){j:Nat}{u:Value}(hj:us[j]? =some u):w.cell? (Ad b j)=some u:=by have:=h j u hj;rwa [Nat.zero_add]at this
abbrev bW:=Nat->TypeId×Value×List Value
def bW.put(ρ:bW)(t:Nat)(x:TypeId×Value×List Value):bW:=fun k=>if k=t then x else ρ k
theorem bW.pY(ρ:bW)(t:Nat)(x:TypeId×Value×List Value):ρ.put t x t=x:=if_pos rfl
theorem bW.eU(ρ:bW){t k:Nat}(x:TypeId×Value×List Value)(h:k≠t):ρ.put t x k=ρ k:=if_neg h
structure yw(w:World)(tag:Nat->Nat)(ρ:bW):Prop where
 each:∀t,2<=t->w.ownsRow 0 (ρ t).1 1 (ρ t).2.1 (ρ t).2.2.length (ρ t).2.2/\∀g,(ρ t).2.1.ownBlock=some g->tag g=t
 new:∀k,w.heap.size<=k->tag k=0
structure Lf(w:World)(tag:Nat->Nat)(w':World)(tag':Nat->Nat):Prop where
 os:w'.os=w.os
 tape:w'.tape=w.tape
 output:w'.output=w.output
 size:w.heap.size<=w'.heap.size
 tags:∀k,k<w.heap.size->tag' k=tag k
 aN:∀k,k<w.heap.size->tag k=0->w'.heap[k]? =w.heap[k]?
variable {tag tag' Yj:Nat->Nat}{ρ ρ':bW}{t:Nat}{v u:Value}{T:TypeId}
theorem Lf.refl(w:World)(tag:Nat->Nat):Lf w tag w tag:=⟨rfl,rfl,rfl,Nat.le_refl _,fun _ _=>rfl,fun _ _ _=>rfl⟩
theorem Lf.trans(h:Lf w tag w' tag')(k:Lf w' tag' w2 Yj):Lf w tag w2 Yj:=by
 have s1:=h.size;have s2:=k.size;exact⟨k.os.trans h.os,k.tape.trans h.tape,k.output.trans h.output,Nat.le_trans s1 s2,fun b hb=>(k.tags b (by omega)).trans (h.tags b hb),fun b hb ht=>(k.aN b (by omega) ((h.tags b hb).trans ht)).trans (h.aN b hb ht)⟩
theorem Lf.grown(h:w.grownBy w' none):Lf w tag w' tag:=⟨h.os,h.tape,h.output,h.size,fun _ _=>rfl,fun k hk _=>h.block k hk (by simp)⟩
theorem Lf.own{g:Nat}(h:w.grownBy w' (some g))(hg:tag g≠0):Lf w tag w' tag:=⟨h.os,h.tape,h.output,h.size,fun _ _=>rfl,fun k hk ht=>h.block k hk (by intro e;cases e;exact hg ht)⟩
theorem Lf.row(h:w.grownBy w' v.ownBlock)(hg:∀g,v.ownBlock=some g->tag g≠0)(rW:∀k,k<w.heap.size->tag' k=tag k):Lf w tag w' tag':=⟨h.os,h.tape,h.output,h.size,rW,fun k hk ht=>h.block k hk (by intro e;exact hg k e.symm ht)⟩
theorem yw.grow(h:yw w tag ρ)(hg:w.grownBy w' none):yw w' tag ρ:=by
 have hs:=hg.size;exact⟨fun t ht=>⟨(h.each t ht).1.kept hg (by cases (ρ t).2.1.ownBlock<;>simp),(h.each t ht).2⟩,fun k hk=>h.new k (by omega)⟩
theorem yw.own(h:yw w tag ρ){g:Nat}(hg:w.grownBy w' (some g))(h1:tag g<2):yw w' tag ρ:=by
 have hs:=hg.size;refine⟨fun t ht=>⟨(h.each t ht).1.kept hg ?_,(h.each t ht).2⟩,fun k hk=>h.new k (by omega)⟩;cases hb:(ρ t).2.1.ownBlock with
 |none=>exact Or.inl rfl
 |some k=>
  right;intro e;cases e;have:=(h.each t ht).2 g hb;omega
def qF(tag:Nat->Nat)(u:Value)(t:Nat):Nat->Nat:=fun k=>if u.ownBlock=some k then t else tag k
theorem yw.put(h:yw w tag ρ)(ht:2<=t){us:List Value}(hg:w.grownBy w' (ρ t).2.1.ownBlock)(hr:w'.ownsRow 0 T 1 u us.length us)(hu:∀g,u.ownBlock=some g->(ρ t).2.1.ownBlock=some g\/w.heap.size<=g):
 yw w' (qF tag u t) (ρ.put t (T,u,us))/\(∀k,k<w.heap.size->qF tag u t k=tag k)/\Lf w tag w' (qF tag u t):=by
 have hs:=hg.size;have rW:∀k,k<w.heap.size->qF tag u t k=tag k:=fun k hk=>by
  unfold qF;split
  .rename_i e;rcases hu k e with e2|e2
   .exact((h.each t ht).2 k e2).symm
   .omega
  .rfl
 refine⟨⟨fun t' ht'=>?_,fun k hk=>?_⟩,rW,Lf.row hg (fun g e=>by have:=(h.each t ht).2 g e;omega) rW⟩
 .by_cases he:t'=t
  .subst he;rw[bW.pY];exact⟨hr,fun g e=>if_pos e⟩
  .rw[bW.eU _ _ he];obtain⟨h1,h2⟩:=h.each t' ht';refine⟨h1.kept hg ?_,fun g e=>?_⟩
   .cases hb:(ρ t').2.1.ownBlock with
    |none=>exact Or.inl rfl
    |some k=>
     right;intro e;have e1:=h2 k hb;have e2:=(h.each t ht).2 k e.symm;omega
   .rw[rW g (h1.lt g e).2];exact h2 g e
 .unfold qF;split
  .rename_i e;have:=(hr.lt k e).2;omega
  .exact h.new k (by omega)
def ptr(pk:Nat->Nat)(q:Nat):Value:=Pt (pk q) 0
def dD(pk:Nat->Nat)(l:List Nat):List Value:=l.map (ptr pk)
def ints(l:List Nat):List Value:=l.map fun(n:Nat)=>Im (n:Int)
def qO(cv rv fv uv av:Value)(s:aO):List Value:=
 [cv,Im s.r0,Im s.r1,Im s.r2,Im s.r3,Im s.r4,Im s.r5,Im s.r6,Im s.r7,rv,Im (s.acc:Int),Im (s.dA:Int),Im (s.dN:Int),fv,uv,av,Im s.quiet,Im (s.turn:Int),Im (s.bQ:Int)]++s.kept.map Value.bool
def Dy(i:Nat)(sv av ov:Value)(r:Lr):List Value:=[Im (i:Int),Im (10 * (i+1):Int),Im (r.cO:Int),Im (r.out:Int),.bool r.nX,sv,av,ov]
def wE(q:Nat)(p:Lp):List Value:=[Im (q:Int),Im p.size,Im p.on]
structure Nw(pk:Nat->Nat)(ρ:bW)(s:aO):Prop where
 aG:(ρ 2).1=163/\(ρ 2).2.2=dD pk s.aG
 aP:(ρ 3).1=163/\(ρ 3).2.2=dD pk s.aP
 aJ:(ρ 4).1=163/\(ρ 4).2.2=dD pk s.aJ
 aT:∀i r,s.ah[i]? =some r->(ρ (5+3 * i)).1=3/\(ρ (5+3 * i)).2.2=ints r.aT
 aX:∀i r,s.ah[i]? =some r->(ρ (6+3 * i)).1=3/\(ρ (6+3 * i)).2.2=ints r.aX
 aQ:∀i r,s.ah[i]? =some r->(ρ (7+3 * i)).1=163/\(ρ (7+3 * i)).2.2=dD pk r.aQ
structure zC(s:aO):Prop where
 aG:∀q∈s.aG,q<s.all.length
 aP:∀q∈s.aP,q<s.all.length
 aJ:∀q∈s.aJ,q<s.all.length
 aQ:∀(i:Nat)(r:Lr),s.ah[i]? =some r->∀q∈r.aQ,q<s.all.length
 kept:s.kept.length=32
 turn:s.turn<s.ah.length
 ah:s.ah.length<=4
structure bg(w:World)(tag:Nat->Nat)(L R:Nat)(pk:Nat->Nat)(cv:Value)(cap:Nat)(ρ:bW)(s:aO):Prop where
 rows:yw w tag ρ
 aU:Nw pk ρ s
 ok:zC s
 lk:nK w L 0 (qO cv (.slice (some (Ad R 0)) s.ah.length cap) (ρ 2).2.1 (ρ 3).2.1 (ρ 4).2.1 s)
 rd:∀i r,s.ah[i]? =some r->nK w R (i * 8) (Dy i (ρ (5+3 * i)).2.1 (ρ (6+3 * i)).2.1 (ρ (7+3 * i)).2.1 r)
 mg:∀q p,s.all[q]? =some p->nK w (pk q) 0 (wE q p)
 fz:∀b,tag b=1->∀j,w.frozen? (Ad b j)=false
 fO:tag L=1
 lM:tag R=1
 vX:L≠R
 ni:∀q,q<s.all.length->tag (pk q)=1/\pk q≠L/\pk q≠R
 inj:∀q q',q<s.all.length->q'<s.all.length->pk q=pk q'->q=q'
variable {L R cap:Nat}{pk:Nat->Nat}{cv:Value}{s:aO}
theorem bg.grow(h:bg w tag L R pk cv cap ρ s)(hg:w.grownBy w' none):bg w' tag L R pk cv cap ρ s:=by
 have hb:∀b,tag b=1->w'.heap[b]? =w.heap[b]? :=fun b e=>hg.block b (by
  rcases Nat.lt_or_ge b w.heap.size with h1|h1
  .exact h1
  .have:=h.rows.new b h1;omega) (by simp)
 exact⟨h.rows.grow hg,h.aU,h.ok,h.lk.same (hb L h.fO),fun i r hr=>(h.rd i r hr).same (hb R h.lM),fun q p hp=>(h.mg q p hp).same (hb _ (h.ni q (List.getElem?_eq_some_iff.1 hp).1).1),fun b e j=>(World.frozen?_of_block (hb b e)).trans (h.fz b e j),h.fO,h.lM,h.vX,h.ni,h.inj⟩
theorem bg.nH(h:bg w tag L R pk cv cap ρ s){b:Nat}(e:tag b≠0):b<w.heap.size:=by
 rcases Nat.lt_or_ge b w.heap.size with h1|h1
 .exact h1
 .exact absurd (h.rows.new b h1) e
theorem bg.apart(h:bg w tag L R pk cv cap ρ s)(ht:2<=t)(hg:w.grownBy w' (ρ t).2.1.ownBlock){b:Nat}(hb:tag b=1):w'.heap[b]? =w.heap[b]? :=
 hg.block b (h.nH (by omega)) (fun e=>by have:=(h.rows.each t ht).2 b e.symm;omega)
theorem rZ(cv rv fv uv av:Value)(s:aO):19<=(qO cv rv fv uv av s).length:=by simp[qO]
theorem bg.Qc(h:bg w tag L R pk cv cap ρ s)(ht:t=2\/t=3\/t=4){j:Nat}(hj:j<19){us:List Value}(hg:w.grownBy w' (ρ t).2.1.ownBlock)(hr:w'.ownsRow 0 T 1 u us.length us)(hu:∀g,u.ownBlock=some g->(ρ t).2.1.ownBlock=some g\/w.heap.size<=g)
 {s':aO}(htab:Nw pk (ρ.put t (T,u,us)) s')(hok:zC s')(hall:s'.all=s.all)(hroads:s'.ah=s.ah)
 (hlk:qO cv (.slice (some (Ad R 0)) s.ah.length cap) (ρ.put t (T,u,us) 2).2.1 (ρ.put t (T,u,us) 3).2.1 (ρ.put t (T,u,us) 4).2.1 s'=(qO cv (.slice (some (Ad R 0)) s.ah.length cap) (ρ 2).2.1 (ρ 3).2.1 (ρ 4).2.1 s).set j u):
 bg (w'.setCell (Ad L j) u) (qF tag u t) L R pk cv cap (ρ.put t (T,u,us)) s'/\Lf w tag (w'.setCell (Ad L j) u) (qF tag u t)/\(∃x,w'.cell? (Ad L j)=some x)/\w'.frozen? (Ad L j)=false:=by
 have ht2:2<=t:=by omega
 obtain⟨q1,q2,q3⟩:=h.rows.put ht2 hg hr hu;have hLo:=h.nH (b:=L) (by rw[h.fO];decide);have hap:∀b,tag b=1->w'.heap[b]? =w.heap[b]? :=fun b hb=>h.apart ht2 hg hb;have GN:=hap L h.fO;have tg:∀b,tag b=1->qF tag u t b=1:=fun b hb=>by rw[q2 b (h.nH (by omega))];exact hb
 have gt:∀b,qF tag u t b=1->tag b=1:=fun b hb=>by
  unfold qF at hb;split at hb
  .omega
  .exact hb
 have hc:=(h.lk.same GN).set (i:=j) (by have:=rZ cv (.slice (some (Ad R 0)) s.ah.length cap) (ρ 2).2.1 (ρ 3).2.1 (ρ 4).2.1 s;omega) u;rw[Nat.zero_add]at hc;have hgs:=dV w' L j u;have ho:∀i,ρ.put t (T,u,us) (5+3 * i)=ρ (5+3 * i)/\ρ.put t (T,u,us) (6+3 * i)=ρ (6+3 * i)/\ρ.put t (T,u,us) (7+3 * i)=ρ (7+3 * i):=fun i=>⟨bW.eU _ _ (by omega),bW.eU _ _ (by omega),bW.eU _ _ (by omega)⟩;refine⟨⟨q1.own hgs (by rw[tg L h.fO];decide),htab,hok,?_,fun i r fB=>?_,fun q p hp=>?_,fun b hb jj=>?_,tg L h.fO,tg R h.lM,h.vX,fun q hq=>?_,?_⟩,q3.trans (Lf.own hgs (by rw[tg L h.fO];decide)),?_,?_⟩
 .rw[hroads,hlk];exact hc
 .rw[hroads]at fB;rw[(ho i).1,(ho i).2.1,(ho i).2.2];exact((h.rd i r fB).same (hap R h.lM)).other _ _ _ (Or.inl h.vX.symm)
 .rw[hall]at hp;have mM:=(List.getElem?_eq_some_iff.1 hp).1;exact((h.mg q p hp).same (hap _ (h.ni q mM).1)).other _ _ _ (Or.inl (h.ni q mM).2.1)
 .rw[World.frozen?_setCell];exact(World.frozen?_of_block (hap b (gt b hb))).trans (h.fz b (gt b hb) jj)
 .rw[hall]at hq;exact⟨tg _ (h.ni q hq).1,(h.ni q hq).2⟩
 .rw[hall];exact h.inj
 .have hlt:j<(qO cv (.slice (some (Ad R 0)) s.ah.length cap) (ρ 2).2.1 (ρ 3).2.1 (ρ 4).2.1 s).length:=by have:=rZ cv (.slice (some (Ad R 0)) s.ah.length cap) (ρ 2).2.1 (ρ 3).2.1 (ρ 4).2.1 s;omega
  exact⟨_,(h.lk.same GN).l9 (List.getElem?_eq_getElem hlt)⟩
 .exact(World.frozen?_of_block GN).trans (h.fz L h.fO j)
theorem bg.dF(h:bg w tag L R pk cv cap ρ s){j:Nat}(hj:j<(qO cv (.slice (some (Ad R 0)) s.ah.length cap) (ρ 2).2.1 (ρ 3).2.1 (ρ 4).2.1 s).length){s':aO}(htab:Nw pk ρ s')(hok:zC s')(hall:s'.all=s.all)(hroads:s'.ah=s.ah)
 (hlk:qO cv (.slice (some (Ad R 0)) s.ah.length cap) (ρ 2).2.1 (ρ 3).2.1 (ρ 4).2.1 s'=(qO cv (.slice (some (Ad R 0)) s.ah.length cap) (ρ 2).2.1 (ρ 3).2.1 (ρ 4).2.1 s).set j u):
 bg (w.setCell (Ad L j) u) tag L R pk cv cap ρ s'/\Lf w tag (w.setCell (Ad L j) u) tag:=by
 have hgs:=dV w L j u;have hc:=h.lk.set hj u;rw[Nat.zero_add]at hc;refine⟨⟨h.rows.own hgs (by rw[h.fO];decide),htab,hok,?_,fun i r fB=>?_,fun q p hp=>?_,fun b hb jj=>?_,h.fO,h.lM,h.vX,?_,?_⟩,Lf.own hgs (by rw[h.fO];decide)⟩
 .rw[hroads,hlk];exact hc
 .rw[hroads]at fB;exact(h.rd i r fB).other _ _ _ (Or.inl h.vX.symm)
 .rw[hall]at hp;exact(h.mg q p hp).other _ _ _ (Or.inl (h.ni q (List.getElem?_eq_some_iff.1 hp).1).2.1)
 .rw[World.frozen?_setCell];exact h.fz b hb jj
 .rw[hall];exact h.ni
 .rw[hall];exact h.inj
theorem LU(i:Nat)(sv av ov:Value)(r:Lr):(Dy i sv av ov r).length=8:=rfl
theorem wG{s:aO}{i k:Nat}{r' r:Lr}(h:(s.ah.set i r')[k]? =some r)(hk:k≠i):s.ah[k]? =some r:=by rwa [List.getElem?_set_ne (fun e=>hk e.symm)]at h
theorem wH{s:aO}{i:Nat}{r' r:Lr}(h:(s.ah.set i r')[i]? =some r):r=r':=by
 have hl:=(List.getElem?_eq_some_iff.1 h).1;rw[List.length_set]at hl;rw[List.getElem?_set_self hl]at h;cases h
 rfl
theorem bg.DK(h:bg w tag L R pk cv cap ρ s){i j:Nat}{r r':Lr}(hi:s.ah[i]? =some r)(hj:j<8)(hout:r'.aQ=r.aQ)(hseg:r'.aT=r.aT)(hack:r'.aX=r.aX)
 (hrd:Dy i (ρ (5+3 * i)).2.1 (ρ (6+3 * i)).2.1 (ρ (7+3 * i)).2.1 r'=(Dy i (ρ (5+3 * i)).2.1 (ρ (6+3 * i)).2.1 (ρ (7+3 * i)).2.1 r).set j u):
 bg (w.setCell (Ad R (i * 8+j)) u) tag L R pk cv cap ρ {s with ah:=s.ah.set i r'}/\Lf w tag (w.setCell (Ad R (i * 8+j)) u) tag:=by
 have hgs:=dV w R (i * 8+j) u;have hc:=(h.rd i r hi).set (i:=j) hj u;have each:∀{k:Nat}{x:Lr},(s.ah.set i r')[k]? =some x->∃y,s.ah[k]? =some y/\x.aQ=y.aQ/\x.aT=y.aT/\x.aX=y.aX:=fun{k x} hx=>by
  by_cases hk:k=i
  .subst hk;rw[wH hx];exact⟨r,hi,hout,hseg,hack⟩
  .exact⟨x,wG hx hk,rfl,rfl,rfl⟩
 refine⟨⟨h.rows.own hgs (by rw[h.lM];decide),⟨h.aU.aG,h.aU.aP,h.aU.aJ,fun k x hx=>?_,fun k x hx=>?_,fun k x hx=>?_⟩,⟨h.ok.aG,h.ok.aP,h.ok.aJ,fun k x hx q hq=>?_,h.ok.kept,by simpa using h.ok.turn,by simpa using h.ok.ah⟩,?_,fun k x hx=>?_,fun q p hp=>?_,fun b hb jj=>?_,h.fO,h.lM,h.vX,h.ni,h.inj⟩,Lf.own hgs (by rw[h.lM];decide)⟩
 .obtain⟨y,y1,y2,y3,y4⟩:=each hx;rw[y3];exact h.aU.aT k y y1
 .obtain⟨y,y1,y2,y3,y4⟩:=each hx;rw[y4];exact h.aU.aX k y y1
 .obtain⟨y,y1,y2,y3,y4⟩:=each hx;rw[y2];exact h.aU.aQ k y y1
 .obtain⟨y,y1,y2,y3,y4⟩:=each hx;rw[y2]at hq;exact h.ok.aQ k y y1 q hq
 .have:=h.lk.other R (i * 8+j) u (Or.inl h.vX);show nK _ L 0 (qO cv (.slice (some (Ad R 0)) (s.ah.set i r').length cap) (ρ 2).2.1 (ρ 3).2.1 (ρ 4).2.1 s);rw[List.length_set];exact this
 .by_cases hk:k=i
  .subst hk;rw[wH hx,hrd];exact hc
  .exact(h.rd k x (wG hx hk)).other _ _ _ (Or.inr (by rw[LU];omega))
 .exact(h.mg q p hp).other _ _ _ (Or.inl (h.ni q (List.getElem?_eq_some_iff.1 hp).1).2.2)
 .rw[World.frozen?_setCell];exact h.fz b hb jj
theorem bg.IC(h:bg w tag L R pk cv cap ρ s){i d:Nat}{r r':Lr}(hi:s.ah[i]? =some r)(hd:d<3){us:List Value}(hg:w.grownBy w' (ρ (5+3 * i+d)).2.1.ownBlock)(hr:w'.ownsRow 0 T 1 u us.length us)(hu:∀g,u.ownBlock=some g->(ρ (5+3 * i+d)).2.1.ownBlock=some g\/w.heap.size<=g)
 (hS:(ρ.put (5+3 * i+d) (T,u,us) (5+3 * i)).1=3/\(ρ.put (5+3 * i+d) (T,u,us) (5+3 * i)).2.2=ints r'.aT)(hA:(ρ.put (5+3 * i+d) (T,u,us) (6+3 * i)).1=3/\(ρ.put (5+3 * i+d) (T,u,us) (6+3 * i)).2.2=ints r'.aX)(hO:(ρ.put (5+3 * i+d) (T,u,us) (7+3 * i)).1=163/\(ρ.put (5+3 * i+d) (T,u,us) (7+3 * i)).2.2=dD pk r'.aQ)
 (hmem:∀q∈r'.aQ,q<s.all.length)
 (hrd:Dy i (ρ.put (5+3 * i+d) (T,u,us) (5+3 * i)).2.1 (ρ.put (5+3 * i+d) (T,u,us) (6+3 * i)).2.1 (ρ.put (5+3 * i+d) (T,u,us) (7+3 * i)).2.1 r'=(Dy i (ρ (5+3 * i)).2.1 (ρ (6+3 * i)).2.1 (ρ (7+3 * i)).2.1 r).set (5+d) u):
 bg (w'.setCell (Ad R (i * 8+(5+d))) u) (qF tag u (5+3 * i+d)) L R pk cv cap (ρ.put (5+3 * i+d) (T,u,us)) {s with ah:=s.ah.set i r'}/\Lf w tag (w'.setCell (Ad R (i * 8+(5+d))) u) (qF tag u (5+3 * i+d))/\(∃x,w'.cell? (Ad R (i * 8+(5+d)))=some x)/\w'.frozen? (Ad R (i * 8+(5+d)))=false:=by
 have ht2:2<=5+3 * i+d:=by omega
 obtain⟨q1,q2,q3⟩:=h.rows.put ht2 hg hr hu;have hap:∀b,tag b=1->w'.heap[b]? =w.heap[b]? :=fun b hb=>h.apart ht2 hg hb;have hRR:=hap R h.lM;have tg:∀b,tag b=1->qF tag u (5+3 * i+d) b=1:=fun b hb=>by rw[q2 b (h.nH (by omega))];exact hb
 have gt:∀b,qF tag u (5+3 * i+d) b=1->tag b=1:=fun b hb=>by
  unfold qF at hb;split at hb
  .omega
  .exact hb
 have hgs:=dV w' R (i * 8+(5+d)) u;have hc:=((h.rd i r hi).same hRR).set (i:=5+d) (by rw[LU];omega) u;have ho:∀k,k≠i->ρ.put (5+3 * i+d) (T,u,us) (5+3 * k)=ρ (5+3 * k)/\ρ.put (5+3 * i+d) (T,u,us) (6+3 * k)=ρ (6+3 * k)/\ρ.put (5+3 * i+d) (T,u,us) (7+3 * k)=ρ (7+3 * k):=fun k hk=>⟨bW.eU _ _ (by omega),bW.eU _ _ (by omega),bW.eU _ _ (by omega)⟩;have o2:ρ.put (5+3 * i+d) (T,u,us) 2=ρ 2:=bW.eU _ _ (by omega);have o3:ρ.put (5+3 * i+d) (T,u,us) 3=ρ 3:=bW.eU _ _ (by omega);have o4:ρ.put (5+3 * i+d) (T,u,us) 4=ρ 4:=bW.eU _ _ (by omega);refine⟨⟨q1.own hgs (by rw[tg R h.lM];decide),⟨by rw[o2];exact h.aU.aG,by rw[o3];exact h.aU.aP,by rw[o4];exact h.aU.aJ,fun k x hx=>?_,fun k x hx=>?_,fun k x hx=>?_⟩,⟨h.ok.aG,h.ok.aP,h.ok.aJ,fun k x hx q hq=>?_,h.ok.kept,by simpa using h.ok.turn,by simpa using h.ok.ah⟩,?_,fun k x hx=>?_,fun q p hp=>?_,fun b hb jj=>?_,tg L h.fO,tg R h.lM,h.vX,fun q hq=>⟨tg _ (h.ni q hq).1,(h.ni q hq).2⟩,h.inj⟩,q3.trans (Lf.own hgs (by rw[tg R h.lM];decide)),?_,?_⟩
 .by_cases hk:k=i
  .subst hk;rw[wH hx];exact hS
  .rw[(ho k hk).1];exact h.aU.aT k x (wG hx hk)
 .by_cases hk:k=i
  .subst hk;rw[wH hx];exact hA
  .rw[(ho k hk).2.1];exact h.aU.aX k x (wG hx hk)
 .by_cases hk:k=i
  .subst hk;rw[wH hx];exact hO
  .rw[(ho k hk).2.2];exact h.aU.aQ k x (wG hx hk)
 .by_cases hk:k=i
  .subst hk;rw[wH hx]at hq;exact hmem q hq
  .exact h.ok.aQ k x (wG hx hk) q hq
 .have:=(h.lk.same (hap L h.fO)).other R (i * 8+(5+d)) u (Or.inl h.vX);rw[o2,o3,o4];show nK _ L 0 (qO cv (.slice (some (Ad R 0)) (s.ah.set i r').length cap) (ρ 2).2.1 (ρ 3).2.1 (ρ 4).2.1 s);rw[List.length_set];exact this
 .by_cases hk:k=i
  .subst hk;rw[wH hx,hrd];exact hc
  .rw[(ho k hk).1,(ho k hk).2.1,(ho k hk).2.2];exact((h.rd k x (wG hx hk)).same hRR).other _ _ _ (Or.inr (by rw[LU];omega))
 .have mM:=(List.getElem?_eq_some_iff.1 hp).1;exact((h.mg q p hp).same (hap _ (h.ni q mM).1)).other _ _ _ (Or.inl (h.ni q mM).2.2)
 .rw[World.frozen?_setCell];exact(World.frozen?_of_block (hap b (gt b hb))).trans (h.fz b (gt b hb) jj)
 .exact⟨_,((h.rd i r hi).same hRR) (5+d) _ (List.getElem?_eq_getElem (by rw[LU];omega))⟩
 .exact(World.frozen?_of_block hRR).trans (h.fz R h.lM _)
theorem bg.ahM(h:bg w tag L R pk cv cap ρ s){q:Nat}{p:Lp}(hq:s.all[q]? =some p)(o:Int):
 bg (w.setCell (Ad (pk q) 2) (Im o)) tag L R pk cv cap ρ {s with all:=s.all.set q {p with on:=o}}/\Lf w tag (w.setCell (Ad (pk q) 2) (Im o)) tag:=by
 have mM:=(List.getElem?_eq_some_iff.1 hq).1;obtain⟨t1,t2,t3⟩:=h.ni q mM;have hgs:=dV w (pk q) 2 (Im o);have hc:=(h.mg q p hq).set (i:=2) (by simp[wE]) (Im o);have hlen:(s.all.set q {p with on:=o}).length=s.all.length:=List.length_set;refine⟨⟨h.rows.own hgs (by rw[t1];decide),⟨h.aU.aG,h.aU.aP,h.aU.aJ,h.aU.aT,h.aU.aX,h.aU.aQ⟩,⟨fun x hx=>by show x<(s.all.set q _).length;rw[hlen];exact h.ok.aG x hx,fun x hx=>by show x<(s.all.set q _).length;rw[hlen];exact h.ok.aP x hx,fun x hx=>by show x<(s.all.set q _).length;rw[hlen];exact h.ok.aJ x hx,fun i r hr x hx=>by show x<(s.all.set q _).length;rw[hlen];exact h.ok.aQ i r hr x hx,h.ok.kept,h.ok.turn,h.ok.ah⟩,h.lk.other _ _ _ (Or.inl t2.symm),fun i r hr=>(h.rd i r hr).other _ _ _ (Or.inl t3.symm),fun x p' hp'=>?_,fun b hb jj=>by rw[World.frozen?_setCell];exact h.fz b hb jj,h.fO,h.lM,h.vX,fun x hx=>by rw[hlen]at hx;exact h.ni x hx,fun x y hx hy=>by rw[hlen]at hx hy;exact h.inj x y hx hy⟩,Lf.own hgs (by rw[t1];decide)⟩;by_cases OL:x=q
 .subst OL;have hp'':(s.all.set x {p with on:=o})[x]? =some p':=hp';rw[List.getElem?_set_self mM]at hp'';cases hp'';exact hc
 .have hp'':(s.all.set q {p with on:=o})[x]? =some p':=hp';rw[List.getElem?_set_ne (fun e=>OL e.symm)]at hp'';exact(h.mg x p' hp'').other _ _ _ (Or.inl fun e=>OL (h.inj x q (List.getElem?_eq_some_iff.1 hp'').1 mM e))
end
end
section
open Go.RowKit Hx
attribute [local go_sem ↓] Go.wp_at_zero Go.wp_at_succ
attribute [local go_sem] bT
section
variable {w w' w2 wy:World}{C:Nat}{c:Co}{v nv u:Value}
theorem GK(h:aV w C c):Calls prog 306 #[Pt C 0] w fun e w'=>e=.returned (Im c.hold.2)/\aV w' C c.hold.1/\Gk w w' C:=by
 obtain⟨v,nv,h⟩:=h;have c2:w.cell? (Ad C 2)=some (Im c.free):=aA h.aW;have fz:∀j,w.frozen? (Ad C j)=false:=fun j=>eu h.aW;have HF:Hid (aV (w.setCell (Ad C 2) (Im (wrap64 (c.free+1)))) C c.hold.1/\Gk w (w.setCell (Ad C 2) (Im (wrap64 (c.free+1)))) C):=⟨⟨v,nv,h.dw _⟩,Gk.free _ _ _⟩;clear h;unfold Co.hold at *;simp only at HF⊢;go_enter func306,ntmps306;go_wp2_with fail;go_ret;exact⟨rfl,HF.out⟩
theorem GI(h:aV w C c)(into:Int):Calls prog 364 #[Pt C 0,Im into] w fun e w'=>e=.returned (Im (c.choose into).2)/\aV w' C (c.choose into).1/\Gk w w' C:=by
 have HH:Hid (Calls prog 306 #[Pt C 0] w fun e w'=>e=.returned (Im c.hold.2)/\aV w' C c.hold.1/\Gk w w' C):=GK h;have HG:Hid (aV w C c/\Gk w w C):=⟨h,Gk.refl _ _⟩;clear h;unfold Co.choose;by_cases hi:into= -1
 .rw[if_pos hi];subst hi;go_enter func364,ntmps364;go_wp2_with fail;refine HH.out.mono ?_;rintro e w1 ⟨rfl,h1,h2⟩;have HF:Hid (aV w1 C c.hold.1/\Gk w w1 C):=⟨h1,h2⟩;clear h1 h2;go_wp2_with fail;go_ret;exact⟨rfl,HF.out⟩
 .rw[if_neg hi];have d:(into== -1)=false:=by simp[hi]
  go_enter func364,ntmps364;go_wp2_with fail;go_ret;exact⟨rfl,HG.out⟩
def yY(ns:List (ByteArray×Int))(t:ByteArray):Int:=((ns.find? fun n=>n.1.data.toList==t.data.toList).map (·.2)).getD (-1)
theorem ah3(ns:List (ByteArray×Int))(t:ByteArray)(i:Nat)(k:ByteArray×Int)(h:ns[i]? =some k):yY (ns.drop i) t=if k.1.data.toList==t.data.toList then k.2 else yY (ns.drop (i+1)) t:=by
 obtain⟨hi,he⟩:=List.getElem?_eq_some_iff.1 h;rw[List.drop_eq_getElem_cons hi,he];unfold yY;rw[List.find?_cons];cases (k.1.data.toList==t.data.toList)<;>rfl
theorem Ud(h:aV w C c)(t:ByteArray)(hn:c.au.length<=4000000):Calls prog 314 #[Pt C 0,.string t] w fun en w'=>en=.returned (Im (c.uf t))/\w.grownBy w' none:=by
 obtain⟨v,nv,h⟩:=h;obtain⟨a,cap,rfl⟩:=fJ h.au;have hC:=h.lt;have c1:w.cell? (Ad C 1)=some (.slice a c.au.length cap):=aA h.aW;have HR:Hid (w.ownsRow (C+1) 448 2 (.slice a c.au.length cap) c.au.length (oV c.au)):=h.au;clear h;have HN:Hid (yY c.au t=yY (c.au.drop 0) t):=rfl;show Calls prog 314 #[Pt C 0,.string t] w fun en w'=>en=.returned (Im (yY c.au t))/\w.grownBy w' none;generalize hr:yY c.au t=r at *;clear hr;generalize c.au=ns at *;go_enter func314,ntmps314;go_wp2_with fail;go_loopg [12] (ns.length+1) (fun gg i wr=>Hid (∃k:Nat,k+gg=ns.length+1/\k<=ns.length/\i=Im k/\r=yY (ns.drop k) t/\w.grownBy wr none))
 case atStart=>exact⟨0,by omega,Nat.zero_le _,rfl,HN.out,World.grownBy.refl _ _⟩
 case round=>
  obtain⟨k,hk1,hk2,rfl,hr,hg⟩:=hrel.out;clear hrel;have HG:Hid (w.grownBy wr none):=hg;by_cases hlt:k<ns.length
  .have d1:decide ((k:Int)<(ns.length:Int))=true:=by simp;omega
   have i0:(0:Int)<=(k:Int):=by omega
   have i1:(k:Int)<(ns.length:Int):=by omega
   have hget:ns[k]? =some ns[k]:=by simp
   obtain⟨e0,e1⟩:=V6 ns k _ hget;obtain⟨g,hag,hBg,hgl,hcs⟩:=WJ HR.out e0;subst hag;have k0:wr.cell? (Ad g (k * 2))=some (.string ns[k].1):=(HG.out.cell (hcs _ _ e0) (by simp));have k1:wr.cell? (Ad g (k * 2+1))=some (Im ns[k].2):=(HG.out.cell (hcs _ _ e1) (by simp));have HD:Hid (r=if ns[k].1.data.toList==t.data.toList then ns[k].2 else yY (ns.drop (k+1)) t):=by rw[hr];exact ah3 ns t k _ hget
   obtain⟨g',hg'⟩:∃g',gk=g'+1:=⟨gk-1,by omega⟩;clear hr hg hget e0 e1 hcs;generalize ns[k]=kn at *;obtain⟨kt,kk⟩:=kn;simp only at k0 k1 HD;cases ht:(kt.data.toList==t.data.toList)with
   |true=>
    have ht2:(kt.toList==t.toList)=true:=by rw[ByteArray.toList_eq,ByteArray.toList_eq];exact ht
    have HD2:Hid (r=kk):=by have:=HD.out;rw[ht]at this;exact this
    clear HD;go_wp2_with fail;go_ret;exact⟨by rw[HD2.out];rfl,HG.out.trans (World.grownBy_alloc _ _ none)⟩
   |false=>
    have ht2:(kt.toList==t.toList)=false:=by rw[ByteArray.toList_eq,ByteArray.toList_eq];exact ht
    have HD2:Hid (r=yY (ns.drop (k+1)) t):=by have:=HD.out;rw[ht]at this;exact this
    clear HD;go_wp2_with fail;go_roundg g'
    case measure=>omega
    case rel=>exact⟨k+1,by omega,by omega,by go_num,HD2.out,HG.out.trans (World.grownBy_alloc _ _ none)⟩
  .have d1:decide ((k:Int)<(ns.length:Int))=false:=by simp;omega
   have HD:Hid (r= -1):=by rw[hr,List.drop_of_length_le (by omega)];rfl
   clear hr hg;go_wp2_with fail;go_ret;exact⟨by rw[HD.out];rfl,HG.out⟩
theorem adg:(prog.info? 448).map (fun i=>(i.zero,i.size,i.bytes))=some (some (.agg #[.string ⟨#[]⟩,Im 0]),2,24):=by kernel_rfl
theorem Oc(h:aV w C c)(t:ByteArray)(ta slot:Int)(hn:c.au.length<=4000000):
 Calls prog 324 #[Pt C 0,.agg #[.string t,Im ta],Im slot] w fun en w'=>en=.returned (.tuple #[])/\aV w' C (c.know t slot)/\Gk w w' C:=by
 obtain⟨v,nv,h⟩:=h;obtain⟨a,cap,rfl⟩:=fJ h.au;have hC:=h.lt;have c1:w.cell? (Ad C 1)=some (.slice a c.au.length cap):=aA h.aW;obtain⟨i0,hi0,hz0,hz1,hz2⟩:=info_parts adg;have HP:Hid (∀(o o2:Obj)(n:Nat)(w1:World)(u:Value),(((w.alloc o).alloc o2).drewN n).grownBy w1 (Value.slice a c.au.length cap).ownBlock->w1.ownsRow (C+1) 448 2 u (c.au.length+1) (oV c.au++[.string t,Im slot])->(∀k,u.ownBlock=some k->(Value.slice a c.au.length cap).ownBlock=some k\/(((w.alloc o).alloc o2).drewN n).heap.size<=k)->
  aV (w1.setCell (Ad C 1) u) C (c.know t slot)/\Gk w (w1.setCell (Ad C 1) u) C/\(∃u,w1.cell? (Ad C 1)=some u)/\w1.frozen? (Ad C 1)=false):=by
  intro o o2 n w1 u hg ho hat;have hgw:w.grownBy (((w.alloc o).alloc o2).drewN n) none:=((World.grownBy_alloc w o none).trans (World.grownBy_alloc _ o2 none)).trans (dh _ n);have h':=h.grow hgw;have e1:oV (c.au++[(t,slot)])=oV c.au++[.string t,Im slot]:=by simp[oV]
  have ho2:w1.ownsRow (C+1) 448 2 u (c.au++[((t,slot):ByteArray×Int)]).length (oV (c.au++[(t,slot)])):=by rw[e1];simpa using ho
  have hb1:w1.heap[C]? =some (.cells #[v,.slice a c.au.length cap,Im c.free] 197):=(hg.block C h'.lt (fun e=>by have:=h'.Dt C e.symm;omega)).trans h'.aW;refine⟨⟨v,u,h'.IJ hg ho2 hat⟩,(Gk.grown hgw hC).trans (h'.Uk hg hat),⟨.slice a c.au.length cap,aA hb1⟩,eu hb1⟩
 have HO:Hid (∀(o o2:Obj)(n:Nat),(((w.alloc o).alloc o2).drewN n).ownsRow (C+1) 448 2 (.slice a c.au.length cap) c.au.length (oV c.au)):=fun o o2 n=>
  (h.grow (((World.grownBy_alloc w o none).trans (World.grownBy_alloc _ o2 none)).trans (dh _ n))).au
 have hmx:c.au.length+1<=maxLen:=by unfold maxLen;omega
 have hby:(c.au.length+1) * 24<=140737488355328:=by omega
 have n1:¬C=w.heap.size:=by omega
 have n2:C<w.heap.size+1:=by omega
 clear h;generalize c.know t slot=ca at *;generalize oV c.au=cells at *;generalize c.au.length=len at *;go_enter func324,ntmps324;go_wp2_with fail;go_region_law ((refine step_append_lies _ (by rfl) _ _ _ (by rfl) (C+1) 448 i0 _ 2 24 Tryz.underlying195 hi0 hz0 hz1 hz2 (by rfl) (by omega) (.slice a len cap) len cells (by rfl) (HO.out _ _ 1) (Ad (w.heap.size+1) 0) 1 1 [.string t,Im slot] (by rfl) (by rfl) (World.news_of_block (cs:=#[.string t,Im slot]) (t:=448) (fr:=(0,0)) (Ou w _ _)) (by simp[Value.oneCell']) (by omega) hmx hby (by simp;omega) (w.heap.size+1+1) (by simp) ?_;intro gg cap1 w3 hown1 hgrow hat hlt;obtain⟨u12,Hg⟩:=(HP.out _ _ 1 _ _ hgrow hown1 (Bv hat)).2.2.1;have G6:=(HP.out _ _ 1 _ _ hgrow hown1 (Bv hat)).2.2.2));all_goals (go_wp2;go_end0;exact⟨rfl,(HP.out _ _ 1 _ _ hgrow hown1 (Bv hat)).1,(HP.out _ _ 1 _ _ hgrow hown1 (Bv hat)).2.1⟩)
def zD(w:World)(C:Nat)(u:Value)(ns:List Int):Prop:=(ns=[]/\u=Nl)\/∃b,u=.slice (some (Ad b 0)) ns.length ns.length/\zx w C b (.cells (ns.map (Value.int .i64)).toArray 3)
theorem zD.gk{ns:List Int}(h:zD w C u ns)(hl:Gk w w' C):zD w' C u ns:=by
 rcases h with h|⟨b,h1,h2⟩
 .exact Or.inl h
 .exact Or.inr ⟨b,h1,h2.gk hl⟩
theorem zD.form{ns:List Int}(h:zD w C u ns):∃a,u=.slice a ns.length ns.length:=by
 rcases h with⟨rfl,rfl⟩|⟨b,rfl,_⟩
 .exact⟨none,rfl⟩
 .exact⟨_,rfl⟩
theorem zD.get{ns:List Int}{a:Option Addr}(h:zD w C (.slice a ns.length ns.length) ns){k:Nat}{x:Int}(hk:ns[k]? =some x):∃b,a=some (Ad b 0)/\w.cell? (Ad b k)=some (Im x):=by
 rcases h with⟨rfl,_⟩|⟨b,e,h2⟩
 .simp at hk
 .cases e;refine⟨b,rfl,(aA h2.at').trans ?_⟩;simp[hk]
structure AP(w wr:World)(C:Nat)(c:Co)(u:Value)(ns:List Int):Prop where
 co:aV wr C c
 aeZ:zD wr C u ns
 aN:Gk w wr C
theorem adG(c:Co)(o:Int)(ns:List Int)(k:Nat)(x:Int)(h:ns[k]? =some x):(c.lay o (ns.take (k+1))).code=(c.lay o (ns.take k)).code++nY x:=by
 have h1:ns.take (k+1)=ns.take k++[x]:=by rw[List.take_add_one,h];rfl
 rw[h1];simp[Co.lay]
theorem Ua(h:aV w C c)(o:Int)(ns:List Int)(hu:zD w C u ns)(hl:ns.length<=100)(hn:c.code.length<=900000000):
 Calls prog 92 #[Pt C 0,.int .u8 o,u] w fun e w'=>e=.returned (.tuple #[])/\aV w' C (c.lay o ns)/\Gk w w' C:=by
 obtain⟨v,nv,h⟩:=h;obtain⟨a,rfl⟩:=hu.form;obtain⟨va,vc,rfl⟩:=fJ h.code;obtain⟨i0,hi,hz0,hz1,hz2⟩:=info_parts Va;have hC:=h.lt;have c0:w.cell? (Ad C 0)=some (.slice va c.code.length vc):=aA h.aW;have HO:Hid (∀ob,(w.alloc ob).ownsRow (C+1) 5 1 (.slice va c.code.length vc) c.code.length (nD c.code)):=fun ob=>h.code.alloc ob;have HA:Hid (∀ob w1 g cap,(w.alloc ob).grownBy w1 (Value.slice va c.code.length vc).ownBlock->w1.ownsRow (C+1) 5 1 (.slice (some (Ad g 0)) (c.code.length+1) cap) (c.code.length+1) (nD c.code++[.int .u8 o])->((Value.slice va c.code.length vc).ownBlock=some g\/g=w.heap.size+1)->
  AP w (w1.setCell (Ad C 0) (.slice (some (Ad g 0)) (c.code.length+1) cap)) C (c.lay o (ns.take 0)) (.slice a ns.length ns.length) ns/\w1.cell? (Ad C 0)=some (.slice va c.code.length vc)/\∀j,w1.frozen? (Ad C j)=false):=by
  intro ob w1 g cap hg ho hat;have hgw:=World.grownBy_alloc w ob none;have h':=h.grow hgw;have hat':∀k,(Value.slice (some (Ad g 0)) (c.code.length+1) cap).ownBlock=some k->(Value.slice va c.code.length vc).ownBlock=some k\/(w.alloc ob).heap.size<=k:=fun k hk=>by
   simp only[Value.ownBlock,Option.some.injEq]at hk;subst hk;exact hat.imp id (fun e=>by simp;omega)
  have e1:nD (c.code++[o])=nD c.code++[.int .u8 o]:=by simp[nD]
  have ho2:w1.ownsRow (C+1) 5 1 (.slice (some (Ad g 0)) (c.code.length+1) cap) (c.code++[o]).length (nD (c.code++[o])):=by rw[e1];simpa using ho
  have hk:=(Gk.grown hgw hC).trans (h'.Uj hg hat');have hb1:w1.heap[C]? =some (.cells #[.slice va c.code.length vc,nv,Im c.free] 197):=(hg.block C h'.lt (fun e=>by have:=h'.BH C e.symm;omega)).trans h'.aW;exact⟨⟨⟨_,nv,by simpa [Co.lay]using h'.XI hg ho2 hat'⟩,hu.gk hk,hk⟩,aA hb1,fun j=>eu hb1⟩
 have n1:¬C=w.heap.size:=by omega
 have HL:Hid (∀k,k<=ns.length->(c.lay o (ns.take k)).code.length<=990000000):=fun k hk=>by
  have:=kG c o (ns.take k);have:(ns.take k).length<=ns.length:=by rw[List.length_take];omega
  omega
 have HB:Hid (∀(k:Nat)(x:Int)(wr:World),ns[k]? =some x->AP w wr C (c.lay o (ns.take k)) (.slice a ns.length ns.length) ns->∃y,wr.cell? (Ad C 0)=some y/\Calls prog 144 #[y,Im x] wr fun e w'=>∃g m cap,e=.returned (.slice (some (Ad g 0)) m cap)/\AP w (w'.setCell (Ad C 0) (.slice (some (Ad g 0)) m cap)) C (c.lay o (ns.take (k+1))) (.slice a ns.length ns.length) ns/\(∃y,w'.cell? (Ad C 0)=some y)/\∀j,w'.frozen? (Ad C j)=false):=fun k x wr hx hI=>by
  obtain⟨⟨v1,tK,k1⟩,k2,k3⟩:=hI;have hkl:k<ns.length:=(List.getElem?_eq_some_iff.1 hx).1;refine⟨v1,aA k1.aW,(ZU _ _ x k1.code (by have:=k1.lt;omega) (by have:=HL.out k (by omega);omega)).mono ?_⟩;rintro e w' ⟨g,cap,e1,e2,e3,e4⟩;have hat':∀k',(Value.slice (some (Ad g 0)) ((c.lay o (ns.take k)).code.length+(nY x).length) cap).ownBlock=some k'->v1.ownBlock=some k'\/wr.heap.size<=k':=fun k' hk'=>by
   simp only[Value.ownBlock,Option.some.injEq]at hk';subst hk';exact e4
  have e5:nD ((c.lay o (ns.take k)).code++nY x)=nD (c.lay o (ns.take k)).code++nD (nY x):=by simp[nD]
  have ho2:w'.ownsRow (C+1) 5 1 (.slice (some (Ad g 0)) ((c.lay o (ns.take k)).code.length+(nY x).length) cap) ((c.lay o (ns.take k)).code++nY x).length (nD ((c.lay o (ns.take k)).code++nY x)):=by rw[e5,List.length_append];exact e2
  have hk:=k1.Uj e3 hat';have hb1:w'.heap[C]? =some (.cells #[v1,tK,Im (c.lay o (ns.take k)).free] 197):=(e3.block C k1.lt (fun e=>by have:=k1.BH C e.symm;omega)).trans k1.aW;refine⟨g,_,cap,e1,⟨⟨.slice (some (Ad g 0)) ((c.lay o (ns.take k)).code.length+(nY x).length) cap,tK,?_⟩,k2.gk hk,k3.trans hk⟩,⟨v1,aA hb1⟩,fun j=>eu hb1⟩;have:=k1.XI e3 ho2 hat';rw[<-adG c o ns k x hx]at this;exact this
 have HZ:Hid (∀wr,AP w wr C (c.lay o (ns.take ns.length)) (.slice a ns.length ns.length) ns->aV wr C (c.lay o ns)/\Gk w wr C):=fun wr hI=>by
  have h1:=hI.co;rw[List.take_of_length_le (Nat.le_refl _)]at h1;exact⟨h1,hI.aN⟩
 clear h hu;generalize hxs:nD c.code=xs at *;clear hxs;generalize hm:c.code.length=m at *;go_enter func92,ntmps92;go_wp2_with (at_builtin;refine wpList_append_lies _ rfl _ _ 194 rfl (C+1) 5 i0 (.int .u8 0) 1 1 Tryz.underlying194 hi hz0 hz1 hz2 rfl (by decide) (.slice va m vc) m xs rfl (HO.out _) (Ad w.heap.size 0) 1 1 [.int .u8 o] rfl rfl (cell_one_new _ _ _) (by simp[Value.oneCell']) (by decide) (by unfold maxLen;omega) (by omega) (by simp;omega) (w.heap.size+1) (by simp) ?_;intro g cap w2 hown hgr hat hlt;have e1:=(HA.out _ _ _ _ hgr hown hat).2.1;have e2:=(HA.out _ _ _ _ hgr hown hat).2.2);have HQ:Hid (AP w (w2.setCell (Ad C 0) (.slice (some (Ad g 0)) (m+1) cap)) C (c.lay o (ns.take 0)) (.slice a ns.length ns.length) ns):=(HA.out _ _ _ _ hgr hown hat).1;clear hown hgr hat e1 e2 HA HO;generalize w2.setCell (Ad C 0) (.slice (some (Ad g 0)) (m+1) cap)=w3 at *;go_loopg [20] (ns.length+1) (fun gg i wr=>Hid (∃k:Nat,k+gg=ns.length+1/\k<=ns.length/\i=Im k/\AP w wr C (c.lay o (ns.take k)) (.slice a ns.length ns.length) ns))
 case atStart=>exact⟨0,by omega,Nat.zero_le _,rfl,HQ.out⟩
 case round=>
  obtain⟨k,hk1,hk2,rfl,hI⟩:=hrel.out;clear hrel HQ;by_cases hkl:k<ns.length
  .have d1:decide ((k:Int)<(ns.length:Int))=true:=by simp;omega
   have i1:(0:Int)<=(k:Int):=by omega
   have i2:(k:Int)<(ns.length:Int):=by omega
   have hget:ns[k]? =some ns[k]:=by simp
   obtain⟨b,hab,kc⟩:=hI.aeZ.get hget;subst hab;obtain⟨y,hy,Jc⟩:=HB.out k _ wr hget hI;have Jc:Hid (Calls prog 144 #[y,Im ns[k]] wr fun e w'=>∃g m cap,e=.returned (.slice (some (Ad g 0)) m cap)/\AP w (w'.setCell (Ad C 0) (.slice (some (Ad g 0)) m cap)) C (c.lay o (ns.take (k+1))) (.slice (some (Ad b 0)) ns.length ns.length) ns/\(∃y,w'.cell? (Ad C 0)=some y)/\∀j,w'.frozen? (Ad C j)=false):=Jc;obtain⟨g',hg'⟩:∃g',gk=g'+1:=⟨gk-1,by omega⟩;clear hI hget;generalize ns[k]=x at *;go_wp2_with fail;refine Jc.out.mono ?_;rintro e w4 ⟨g4,m4,cap4,rfl,Ux,⟨y4,hy4⟩,fz⟩;have HI4:Hid (AP w (w4.setCell (Ad C 0) (.slice (some (Ad g4 0)) m4 cap4)) C (c.lay o (ns.take (k+1))) (.slice (some (Ad b 0)) ns.length ns.length) ns):=Ux;clear Ux Jc;go_wp2_with fail;go_roundg g'
   case measure=>omega
   case rel=>exact⟨k+1,by omega,by omega,by go_num,HI4.out⟩
  .have d1:decide ((k:Int)<(ns.length:Int))=false:=by simp;omega
   have hke:k=ns.length:=by omega
   have HE:Hid (aV wr C (c.lay o ns)/\Gk w wr C):=HZ.out wr (by rw[hke]at hI;exact hI);clear hI hke;go_wp2_with fail;go_end0;exact⟨rfl,HE.out⟩
end
end
end Go.Proofs.YthllhabjfchgiaaGreatDoor
