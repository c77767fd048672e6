import Derived.Test.YthllhabjfchgiaaGreatDoorHb43
set_option maxRecDepth 100000
set_option maxHeartbeats 8000000
set_option linter.unusedSimpArgs false
namespace Go.Proofs.YthllhabjfchgiaaGreatDoor
open _root_.Go.Proofs.Tryz
section
open Go.RowKit Hx
section
variable {s:jm}{p p' q q':Ps}{ex ex':Ps->Ex×Ps}
theorem ahD{s:jm}{ex:Ps->Ex×Ps}(n:Nat){p:Ps}(hp:kP p):kD (rX s ex n p).2:=by
 have h3:¬p.k.kind=3:=by rcases hp.1 with e|e<;>omega
 have h4:¬p.k.kind=4:=by rcases hp.1 with e|e<;>omega
 have h2:¬p.k.kind=2:=by rcases hp.1 with e|e<;>omega
 unfold rX;rw[jk h3,jk h4,jk h2,hp.is (by simp),hp.is (by simp),hp.is (by simp),hp.is (by simp),hp.set];exact kD.fail p
theorem ahL(h:rU s ex ex'){n n':Nat}(hn:(s.size:Int)+1<=n)(hn':(s.size:Int)+1<=n')(hp:Live s p p'):oP s p.k.at' (rX s ex n p) (rX (kT s) ex' n' p'):=by
 have leaf:¬kP p->∀f:Tk->Ex,oP s p.k.at' (f p.k,p.next s) (f p'.k,p'.next (kT s)):=λhd f=>by
  obtain⟨l,m⟩:=hp.next hd;exact jh ⟨by show f _=f _;rw[hp.same hd],l,by show _<=(p.next s).k.at';omega⟩
 unfold rX;simp only[hp.is,<-hp.kind];split
 .exact leaf (Np (by omega)) λk=>BN k.at' ((Lib.atoi k.text.data.toList).getD 0)
 split
 .exact leaf (Np (by omega)) λk=>Dv k.at' ((k.text.data.toList.getD 1 0).toNat-48)
 split
 .exact leaf (Np (by omega)) λk=>y8 k.at' ⟨k.text,k.at'⟩
 split
 .rename_i e;have hd:¬kP p:=by
   rw[iW]at e;rcases e with e|e
   .exact uG (by simp) e
   .exact uG (by simp) e
  exact leaf hd λk=>zO k.at' 1 2 (p.is [116,114,117,101])
 split
 .rename_i e;rcases TM h hp with hb|⟨e1,l,m⟩
  .exact ji hb
  .refine jh ⟨?_,l,by show _<=(BH s ex p).2.k.at';exact fD (by omega) m⟩;rw[hp.same (uG (t:=[40]) (by simp) e)];exact congrArg (λx:Ex=>x.widen p'.k.at') e1
 split
 .rename_i e;have hd:=uG (t:=[105,115,110,111,110,101]) (by simp) e;obtain⟨l0,m0⟩:=hp.next hd;rcases TM h l0 with hb|⟨e1,l,m⟩
  .exact ji hb
  .refine jh ⟨?_,l,by show _<=(BH s ex (p.next s)).2.k.at';exact fD (by omega) m⟩;rw[hp.same hd];exact congrArg (λx:Ex=>yV p'.k.at' x) e1
 rw[<-hp.text];split
 .exact apm h hn hn' hp
 .exact ji ⟨kD.fail p,kD.fail p'⟩
theorem Jb{s:jm}{ex:Ps->Ex×Ps}(a:Int)(n:Nat)(e:Ex){p:Ps}(hp:kP p):qA s ex a n e p=(e,p):=by
 cases n with
 |zero=>rfl
 |succ n=>rw[qA,jk (by rw[hp.is (by simp)];simp)]
theorem Tq(h:rU s ex ex')(a:Int):∀(n n':Nat)(e:Ex)(p p':Ps),Live s p p'->(s.size:Int)+1<=n+p.k.at'->(s.size:Int)+1<=n'+p.k.at'->oP s p.k.at' (qA s ex a n e p) (qA (kT s) ex' a n' e p')
 |0,_,_,p,_,hp,hn,_=>by have:=hp.bd;have:=hp.oQ;omega
 |_+1,0,_,p,_,hp,_,hn=>by have:=hp.bd;have:=hp.oQ;omega
 |n+1,n'+1,x,p,p',hp,hn,hn'=>by
  rw[qA,qA,hp.is];by_cases e:p.is [46]=true
  .rw[jl e,jl e];obtain⟨l1,m1⟩:=hp.next (uG (by simp) e);have hz:p.k.text.size=1:=by have:=yD p.k.text;rw[Dk e]at this;exact this.symm
   have bad:∀{s:jm}{ex:Ps->Ex×Ps}{n:Nat}{d:Wd×Ps},kD d.2->kD (if (d.1.text.data.toList==[111,110]&&d.2.is [40])=true then qA s ex a n (qL s ex a x d.2).1 (qL s ex a x d.2).2 else qA s ex a n (vS a (oW d.1.text.data.toList).2 (oW d.1.text.data.toList).1 x d.1) d.2).2:=λhb=>by
    rw[hb.is (t:=[40]) (by simp),iO,jk (by simp),Jb _ _ _ (kP.of hb)];exact hb
   rcases l1.name with⟨b,b'⟩|⟨e2,l2,m2⟩
   .exact ji ⟨bad b,bad b'⟩
   .show oP s _ (if _ then _ else _) (if _ then _ else _);rw[<-e2,l2.is];split
    .rcases TM h l2 with⟨b,b'⟩|⟨e3,l3,m3⟩
     .refine ji ⟨?_,?_⟩
      .rw[Jb (p:=(qL s ex a x ((p.next s).name s).2).2) _ _ _ (kP.of b)];exact b
      .rw[Jb (p:=(qL (kT s) ex' a x ((p'.next (kT s)).name (kT s)).2).2) _ _ _ (kP.of b')];exact b'
     .have e4:(qL s ex a x ((p.next s).name s).2).1=(qL (kT s) ex' a x ((p'.next (kT s)).name (kT s)).2).1:=congrArg (λy:Ex=>xJ a x y) e3;rw[<-e4];have m4:((p.next s).name s).2.k.at'+1<=(qL s ex a x ((p.next s).name s).2).2.k.at':=m3;rcases Tq h a n n' _ (qL s ex a x ((p.next s).name s).2).2 (qL (kT s) ex' a x ((p'.next (kT s)).name (kT s)).2).2 l3 (by omega) (by omega)with hb|⟨e5,l5,m5⟩
      .exact ji hb
      .exact jh ⟨e5,l5,by omega⟩
    .rcases Tq h a n n' _ _ _ l2 (by omega) (by omega)with hb|⟨e5,l5,m5⟩
     .exact ji hb
     .exact jh ⟨e5,l5,by omega⟩
  .rw[jk e,jk e];exact jh ⟨rfl,hp,aV _⟩
theorem Oq{s:jm}{ex:Ps->Ex×Ps}(n:Nat){p:Ps}(hp:kP p):kD (xY s ex n p).2:=by
 have hb:=ahD (s:=s) (ex:=ex) n hp;unfold xY;rw[Jb _ _ _ (kP.of hb)];exact hb
theorem ah0(h:rU s ex ex'){n n':Nat}(hn:(s.size:Int)+1<=n)(hn':(s.size:Int)+1<=n')(hp:Live s p p'):oP s p.k.at' (xY s ex n p) (xY (kT s) ex' n' p'):=by
 rcases hp.split with hk|⟨d,d'⟩
 .unfold xY;rcases ahL h hn hn' hp with⟨b,b'⟩|⟨e,l,m⟩
  .rw[Jb _ _ _ (kP.of b),Jb _ _ _ (kP.of b')];exact ji ⟨b,b'⟩
  .rw[<-hk,<-e];have h0:=hp.oQ;rcases Tq h p.k.at' n n' _ _ _ l (by omega) (by omega)with hb|⟨e5,l5,m5⟩
   .exact ji hb
   .exact jh ⟨e5,l5,by omega⟩
 .exact ji ⟨Oq n d,Oq n' d'⟩
theorem Vu{s:jm}{ex:Ps->Ex×Ps}(n m:Nat){p:Ps}(hp:kP p):kD (qQ s ex n m p).2:=by
 cases m with
 |zero=>exact Oq n hp
 |succ m=>
  rw[qQ,jk (by rw[hp.is (by simp)];simp),jk (by rw[hp.is (by simp)];simp)];exact Oq n hp
theorem adi(h:rU s ex ex'){n n':Nat}(hn:(s.size:Int)+1<=n)(hn':(s.size:Int)+1<=n'):∀(m m':Nat)(p p':Ps),Live s p p'->(s.size:Int)+1<=m+p.k.at'->(s.size:Int)+1<=m'+p.k.at'->oP s p.k.at' (qQ s ex n m p) (qQ (kT s) ex' n' m' p')
 |0,_,p,_,hp,hm,_=>by have:=hp.bd;have:=hp.oQ;omega
 |_+1,0,p,_,hp,_,hm=>by have:=hp.bd;have:=hp.oQ;omega
 |m+1,m'+1,p,p',hp,hm,hm'=>by
  have sign:∀(c:UInt8)(k:Int),p.is [c]=true->oP s p.k.at' (tV p.k.at' k p.k.text (qQ s ex n m (p.next s)).1,(qQ s ex n m (p.next s)).2) (tV p'.k.at' k p'.k.text (qQ (kT s) ex' n' m' (p'.next (kT s))).1,(qQ (kT s) ex' n' m' (p'.next (kT s))).2):=λc k e=>by
   have hd:=uG (t:=[c]) (by simp) e;obtain⟨l1,m1⟩:=hp.next hd;have hz:p.k.text.size=1:=by have:=yD p.k.text;rw[Dk e]at this;exact this.symm
   rcases adi h hn hn' m m' _ _ l1 (by omega) (by omega)with hb|⟨e2,l2,m2⟩
   .exact ji hb
   .refine jh ⟨?_,l2,by show _<=(qQ s ex n m (p.next s)).2.k.at';omega⟩;rw[hp.same hd,e2]
  rw[qQ,qQ,hp.is,hp.is];split
  .rename_i e;exact sign 45 1 e
  split
  .rename_i e;exact sign 33 2 e
  exact ah0 h hn hn' hp
theorem aaB{p:Ps}(hp:kP p){of:Int}(h5:of<=5):¬oL p.k.text.data.toList=of:=by
 rw[hp.2];show¬oL []=of;have:oL []=6:=by decide
 omega
theorem Nv{s:jm}{lower:Ps->Ex×Ps}{of:Int}(h5:of<=5)(a:Int)(n:Nat)(e:Ex){p:Ps}(hp:kP p):sF s lower of a n e p=(e,p):=by
 cases n with
 |zero=>rfl
 |succ n=>rw[sF,jk (aaB hp h5)]
theorem adV{lower lower':Ps->Ex×Ps}(h:rU s lower lower'){of:Int}(h5:of<=5)(a:Int):∀(n n':Nat)(e:Ex)(p p':Ps),Live s p p'->(s.size:Int)+1<=n+p.k.at'->(s.size:Int)+1<=n'+p.k.at'->oP s p.k.at' (sF s lower of a n e p) (sF (kT s) lower' of a n' e p')
 |0,_,_,p,_,hp,hn,_=>by have:=hp.bd;have:=hp.oQ;omega
 |_+1,0,_,p,_,hp,_,hn=>by have:=hp.bd;have:=hp.oQ;omega
 |n+1,n'+1,x,p,p',hp,hn,hn'=>by
  rw[sF,sF,<-hp.text];by_cases e:oL p.k.text.data.toList=of
  .rw[jl e,jl e];have hd:¬kP p:=λhd=>aaB hd h5 e;obtain⟨l1,m1⟩:=hp.next hd;have hz:1<=p.k.text.size:=by
    rcases gJ p.k.text.size with hz|hz
    .exfalso
     have:=yD p.k.text;rw[hz]at this;rw[List.length_eq_zero_iff.1 this]at e;have:oL []=6:=by decide
     omega
    .exact hz
   show oP s _ (if _ then _ else _) (if _ then _ else _);rcases h.rel _ _ l1 with⟨b,b'⟩|⟨e2,l2,m2⟩
   .split
    .exact ji ⟨b,b'⟩
    .rw[Nv h5 _ _ _ (kP.of b),Nv h5 _ _ _ (kP.of b')];exact ji ⟨b,b'⟩
   .rw[<-e2];split
    .exact jh ⟨rfl,l2,by show _<=(lower (p.next s)).2.k.at';omega⟩
    .rcases adV h h5 a n n' _ _ _ l2 (by omega) (by omega)with hb|⟨e5,l5,m5⟩
     .exact ji hb
     .exact jh ⟨e5,l5,by omega⟩
  .rw[jk e,jk e];exact jh ⟨rfl,hp,aV _⟩
theorem Nw{s:jm}{ex:Ps->Ex×Ps}(n:Nat):∀(l:Nat)(p:Ps),kP p->kD (yx s ex n l p).2
 |0,_,hp=>Vu n n hp
 |l+1,_,hp=>by
  have hb:=Nw (s:=s) (ex:=ex) n l _ hp;rw[yx,Nv (by omega) _ _ _ (kP.of hb)];exact hb
theorem adX(h:rU s ex ex'){n n':Nat}(hn:(s.size:Int)+1<=n)(hn':(s.size:Int)+1<=n'):∀l:Nat,rU s (yx s ex n l) (yx (kT s) ex' n' l)
 |0=>⟨λ_ hp=>Vu n n hp,λ_ hp=>Vu n' n' hp,λp p' hp=>adi h hn hn' n n' p p' hp (by have:=hp.oQ;omega) (by have:=hp.oQ;omega)⟩
 |l+1=>⟨Nw n (l+1),Nw n' (l+1),λp p' hp=>by
  have ih:=adX h hn hn' l;have h0:=hp.oQ;rcases hp.split with hk|⟨d,d'⟩
  .rw[yx,yx];rcases ih.rel p p' hp with⟨b,b'⟩|⟨e,l2,m⟩
   .rw[Nv (by omega) _ _ _ (kP.of b),Nv (by omega) _ _ _ (kP.of b')];exact ji ⟨b,b'⟩
   .rw[<-hk,<-e];rcases adV ih (of:=5-l) (by omega) p.k.at' n n' _ _ _ l2 (by omega) (by omega)with hb|⟨e5,l5,m5⟩
    .exact ji hb
    .exact jh ⟨e5,l5,by omega⟩
  .exact ji ⟨Nw n (l+1) _ d,Nw n' (l+1) _ d'⟩⟩
theorem TT(s:jm):∀d:Nat,rU s (vF s d) (vF (kT s) d)
 |0=>⟨λp _=>kD.fail p,λp _=>kD.fail p,λp p' _=>ji ⟨kD.fail p,kD.fail p'⟩⟩
 |d+1=>adX (TT s d) (by omega) (by rw[Dt];omega) 6
end
section
variable {s:jm}{p p' q q':Ps}{ex ex' ey ey':Ps->Ex×Ps}
theorem Pj{s:jm}{ex:Ps->Ex×Ps}{p:Ps}(h:∀p,kP p->kD (ex p).2)(hp:kD p):kD (pF s ex p).2:=
 kD.expect (t:=[59]) (h _ (kP.of (kD.expect (t:=[61]) hp (by simp)))) (by simp)
theorem Uj(h:rU s ex ex')(hp:Live s p p'):oP s (p.k.at'+1) (pF s ex p) (pF (kT s) ex' p'):=by
 unfold pF;rcases hp.expect (t:=[61]) (by simp)with⟨b,b'⟩|⟨l,m⟩
 .exact ji ⟨kD.expect (h.wU _ (kP.of b)) (by simp),kD.expect (h.wV _ (kP.of b')) (by simp)⟩
 .rcases h.rel _ _ l with⟨b,b'⟩|⟨e,l2,m2⟩
  .exact ji ⟨kD.expect b (by simp),kD.expect b' (by simp)⟩
  .rcases l2.expect (t:=[59]) (by simp)with⟨b,b'⟩|⟨l3,m3⟩
   .exact ji ⟨b,b'⟩
   .exact jh ⟨e,l3,by show _<=((ex (p.expect s [61])).2.expect s [59]).k.at';omega⟩
theorem aqu(h:rU s ex ex')(hp:Live s p p')(_:p.k.kind=2):oP s (p.k.at'+1) (EO s ex p) (EO (kT s) ex' p'):=by
 unfold EO;rcases hp.name with⟨b,b'⟩|⟨e,l,m⟩
 .exact ji ⟨Pj h.wU b,Pj h.wV b'⟩
 .rcases Uj h l with hb|⟨e2,l2,m2⟩
  .exact ji hb
  .exact jh ⟨by show sQ _ _=sQ _ _;rw[e,e2],l2,by show _<=(pF s ex (p.name s).2).2.k.at';omega⟩
theorem aq5(h:rU s ex ex')(hp:Live s p p')(hk:p.k.kind=4):oP s (p.k.at'+1) (EP s ex p) (EP (kT s) ex' p'):=by
 unfold EP;have hd:=Np (p:=p) (by omega);obtain⟨l,m⟩:=hp.next hd;rcases Uj h l with hb|⟨e2,l2,m2⟩
 .exact ji hb
 .exact jh ⟨by show yE _ _ _=yE _ _ _;rw[hp.same hd,e2],l2,by show _<=(pF s ex (p.next s)).2.k.at';omega⟩
theorem amY(h:rU s ex ex')(hp:Live s p p')(hk:p.is [118,97,114]=true):oP s (p.k.at'+1) (Ez s ex p) (Ez (kT s) ex' p'):=by
 unfold Ez;have hd:=uG (t:=[118,97,114]) (by simp) hk;obtain⟨l,m⟩:=hp.next hd;rcases l.name with⟨b,b'⟩|⟨e,l1,m1⟩
 .exact ji ⟨Pj h.wU b,Pj h.wV b'⟩
 .rcases Uj h l1 with hb|⟨e2,l2,m2⟩
  .exact ji hb
  .exact jh ⟨by show uD _ _ _=uD _ _ _;rw[hp.same hd,e,e2],l2,by show _<=(pF s ex ((p.next s).name s).2).2.k.at';omega⟩
theorem ao0(h:rU s ex ex')(hp:Live s p p')(hk:p.is [112,117,115,104]=true):oP s (p.k.at'+1) (ED s ex p) (ED (kT s) ex' p'):=by
 have last:∀{s:jm}{q:Ps},kD q->kD ((q.close s [41]).expect s [59]):=λhb=>kD.expect (kD.close hb (by simp)) (by simp);have mid:∀{s:jm}{ex:Ps->Ex×Ps}{q:Ps},(∀p,kP p->kD (ex p).2)->kD q->kD (((ex (q.expect s [44])).2.close s [41]).expect s [59]):=λhx hb=>kD.expect (kD.close (hx _ (kP.of (kD.expect hb (by simp)))) (by simp)) (by simp);unfold ED;have hd:=uG (t:=[112,117,115,104]) (by simp) hk;obtain⟨l,m⟩:=hp.next hd;rcases l.jW (t:=[40]) (by simp)with⟨b,b'⟩|⟨l1,m1⟩
 .exact ji ⟨mid h.wU (h.wU _ (kP.of b)),mid h.wV (h.wV _ (kP.of b'))⟩
 rcases h.rel _ _ l1 with⟨b,b'⟩|⟨e2,l2,m2⟩
 .exact ji ⟨mid h.wU b,mid h.wV b'⟩
 rcases l2.expect (t:=[44]) (by simp)with⟨b,b'⟩|⟨l3,m3⟩
 .exact ji ⟨last (h.wU _ (kP.of b)),last (h.wV _ (kP.of b'))⟩
 rcases h.rel _ _ l3 with⟨b,b'⟩|⟨e4,l4,m4⟩
 .exact ji ⟨last b,last b'⟩
 rcases l4.close (t:=[41]) (by simp)with⟨b,b'⟩|⟨l5,m5⟩
 .exact ji ⟨kD.expect b (by simp),kD.expect b' (by simp)⟩
 rcases l5.expect (t:=[59]) (by simp)with⟨b,b'⟩|⟨l6,m6⟩
 .exact ji ⟨b,b'⟩
 refine jh ⟨?_,l6,?_⟩
 .show vU _ _ _=vU _ _ _;rw[hp.same hd,e2,e4]
 .refine fD ?_ m6;omega
theorem apR(hp:Live s p p')(hk:p.is [114,101,116,117,114,110]=true):oP s (p.k.at'+1) (EI s p) (EI (kT s) p'):=by
 unfold EI;have hd:=uG (t:=[114,101,116,117,114,110]) (by simp) hk;obtain⟨l,m⟩:=hp.next hd;rcases l.expect (t:=[59]) (by simp)with hb|⟨l3,m3⟩
 .exact ji hb
 .exact jh ⟨by show yC _=yC _;rw[hp.same hd],l3,by show _<=((p.next s).expect s [59]).k.at';omega⟩
structure Ko(s:jm)(jL blk':Ps->List jK×Ps):Prop where
 wU:∀p,kP p->kD (jL p).2
 wV:∀p,kP p->kD (blk' p).2
 rel:∀p p',Live s p p'->oP s (p.k.at'+1) (jL p) (blk' p')
variable {jL blk':Ps->List jK×Ps}
theorem OD{s:jm}{jL:Ps->List jK×Ps}(a:Int)(c:Ex){y:List jK×Ps}(hy:kD y.2):
 kD (if y.2.is [101,108,115,101]=true then (rY a c y.1 (jL (y.2.next s)).1,(jL (y.2.next s)).2)else (rY a c y.1 [],y.2)).2:=by
 rw[hy.is (by simp),jk (by simp)];exact hy
theorem aiQ(h:rU s ex ex')(hb:Ko s jL blk')(hp:Live s p p')(hk:p.is [105,102]=true):oP s (p.k.at'+1) (yP s ex jL p) (yP (kT s) ex' blk' p'):=by
 have hd:=uG (t:=[105,102]) (by simp) hk;obtain⟨l,m⟩:=hp.next hd;unfold yP;rcases h.rel _ _ l with⟨b,b'⟩|⟨e2,l2,m2⟩
 .exact ji ⟨OD _ _ (hb.wU _ (kP.of b)),OD _ _ (hb.wV _ (kP.of b'))⟩
 rcases hb.rel _ _ l2 with⟨b,b'⟩|⟨e3,l3,m3⟩
 .exact ji ⟨OD _ _ b,OD _ _ b'⟩
 show oP s _ (if _ then _ else _) (if _ then _ else _);rw[l3.is];by_cases hi:(jL (ex (p.next s)).2).2.is [101,108,115,101]=true
 .rw[jl hi,jl hi];obtain⟨l4,m4⟩:=l3.next (uG (by simp) hi);rcases hb.rel _ _ l4 with hb'|⟨e5,l5,m5⟩
  .exact ji hb'
  .refine jh ⟨?_,l5,by refine fD ?_ m5;omega⟩;rw[hp.same hd,e2,e3,e5]
 .rw[jk hi,jk hi];refine jh ⟨?_,l3,by refine fD ?_ m3;omega⟩;rw[hp.same hd,e2,e3]
def JC(jL:Ps->List jK×Ps)(a:Int)(d:Wd)(x:(Sx×Bool)×Ps):jK×Ps:=
 (tK a d x.1.1 (jL (if x.1.2=true then x.2.fail else x.2)).1,(jL (if x.1.2=true then x.2.fail else x.2)).2)
theorem JD{jL:Ps->List jK×Ps}(hb:∀p,kP p->kD (jL p).2)(a:Int)(d:Wd){x:(Sx×Bool)×Ps}(hx:kD x.2):kD (JC jL a d x).2:=by
 unfold JC;split
 .exact hb _ (kP.of (kD.fail _))
 .exact hb _ (kP.of hx)
theorem amF(hb:Ko s jL blk'){a b:Int}{d:Wd}{x x':(Sx×Bool)×Ps}(hx:oP s b x x'):oP s (b+1) (JC jL a d x) (JC blk' a d x'):=by
 rcases hx with⟨b,b'⟩|⟨e,l,m⟩
 .exact ji ⟨JD hb.wU _ _ b,JD hb.wV _ _ b'⟩
 unfold JC;rw[<-e];by_cases hi:x.1.2=true
 .rw[jl hi,jl hi];exact ji ⟨hb.wU _ (kP.of (kD.fail _)),hb.wV _ (kP.of (kD.fail _))⟩
 .rw[jk hi,jk hi];rcases hb.rel _ _ l with hb'|⟨e5,l5,m5⟩
  .exact ji hb'
  .refine jh ⟨?_,l5,by refine fD ?_ m5;omega⟩;rw[e5]
theorem acU(s:jm)(jL:Ps->List jK×Ps)(ex:Ps->Ex×Ps)(n:Nat)(p:Ps):Dl s jL ex n p=JC jL p.k.at' ((p.next s).name s).1 (mZ s ex n (((p.next s).name s).2.expect s [105,110])):=rfl
theorem amM(h:rU s ex ex')(hb:Ko s jL blk'){n n':Nat}(hn:(s.size:Int)+1<=n)(hn':(s.size:Int)+1<=n')(hp:Live s p p')(hk:p.is [101,97,99,104]=true):oP s (p.k.at'+1) (Dl s jL ex n p) (Dl (kT s) blk' ex' n' p'):=by
 have hd:=uG (t:=[101,97,99,104]) (by simp) hk;obtain⟨l,m⟩:=hp.next hd;rw[acU,acU];rcases l.name with⟨b,b'⟩|⟨e1,l1,m1⟩
 .exact ji ⟨JD hb.wU _ _ (Q7 n (kP.of (kD.expect b (by simp)))).1,JD hb.wV _ _ (Q7 n' (kP.of (kD.expect b' (by simp)))).1⟩
 rw[<-e1,<-hp.same hd];rcases l1.expect (t:=[105,110]) (by simp)with⟨b,b'⟩|⟨l2,m2⟩
 .exact ji ⟨JD hb.wU _ _ (Q7 n (kP.of b)).1,JD hb.wV _ _ (Q7 n' (kP.of b')).1⟩
 rcases amF hb (a:=p.k.at') (d:=((p.next s).name s).1) (afg h hn hn' l2)with hb'|⟨e5,l5,m5⟩
 .exact ji hb'
 .exact jh ⟨e5,l5,by omega⟩
def SL(s:jm)(p p':Ps)(r r':Option jK×Ps):Prop:=
 (∃e e' q q',r=(some e,q)/\r'=(some e',q')/\oP s (p.k.at'+1) (e,q) (e',q'))\/(r=(none,p)/\r'=(none,p'))
theorem Ik{a a':jK×Ps}(h:oP s (p.k.at'+1) a a'):SL s p p' (some a.1,a.2) (some a'.1,a'.2):=ji ⟨_,_,_,_,rfl,rfl,h⟩
theorem aqV(h:rU s ex ex')(h2:rU s ey ey')(hb:Ko s jL blk'){n n':Nat}(hn:(s.size:Int)+1<=n)(hn':(s.size:Int)+1<=n')(hp:Live s p p'):SL s p p' (uJ s ex jL ey n p) (uJ (kT s) ex' blk' ey' n' p'):=by
 unfold uJ;simp only[hp.is,<-hp.kind];split
 .exact Ik (aqu h hp (by assumption))
 split
 .exact Ik (aq5 h hp (by assumption))
 split
 .exact Ik (amY h hp (by assumption))
 split
 .exact Ik (ao0 h2 hp (by assumption))
 split
 .exact Ik (apR hp (by assumption))
 split
 .exact Ik (aiQ h hb hp (by assumption))
 split
 .exact Ik (amM h2 hb hn hn' hp (by assumption))
 exact jh ⟨rfl,rfl⟩
theorem Ro{s:jm}{ex ey:Ps->Ex×Ps}{jL:Ps->List jK×Ps}(n:Nat){p:Ps}(hp:kP p):uJ s ex jL ey n p=(none,p):=by
 have h4:¬p.k.kind=4:=by rcases hp.1 with e|e<;>omega
 have h2:¬p.k.kind=2:=by rcases hp.1 with e|e<;>omega
 unfold uJ;rw[jk h2,jk h4,hp.is (by simp),hp.is (by simp),hp.is (by simp),hp.is (by simp),hp.is (by simp)]
 rfl
theorem Rl{st:Ps->Option jK×Ps}(h:∀p,kP p->st p=(none,p))(n:Nat)(l:List jK){p:Ps}(hp:kP p):pR st n l p=(l,p):=by
 cases n with
 |zero=>rfl
 |succ n=>rw[pR,h p hp]
theorem afB{st st':Ps->Option jK×Ps}(hd:∀p,kP p->st p=(none,p))(hd':∀p,kP p->st' p=(none,p))(h:∀p p',Live s p p'->SL s p p' (st p) (st' p')):
 ∀(n n':Nat)(l:List jK)(p p':Ps),Live s p p'->(s.size:Int)+1<=n+p.k.at'->(s.size:Int)+1<=n'+p.k.at'->oP s p.k.at' (pR st n l p) (pR st' n' l p')
 |0,_,_,p,_,hp,hn,_=>by have:=hp.bd;have:=hp.oQ;omega
 |_+1,0,_,p,_,hp,_,hn=>by have:=hp.bd;have:=hp.oQ;omega
 |n+1,n'+1,x,p,p',hp,hn,hn'=>by
  rw[pR,pR];rcases h p p' hp with⟨e,e',q,q',h1,h2,hr⟩|⟨h1,h2⟩
  .rw[h1,h2];show oP s _ (pR st n (x++[e]) q) (pR st' n' (x++[e']) q');rcases hr with⟨b,b'⟩|⟨e1,l1,m1⟩
   .rw[Rl hd _ _ (kP.of b),Rl hd' _ _ (kP.of b')];exact ji ⟨b,b'⟩
   .have e2:e=e':=e1;have m2:p.k.at'+1<=q.k.at':=m1;rw[e2];rcases afB hd hd' h n n' (x++[e']) q q' l1 (by omega) (by omega)with hb|⟨e3,l3,m3⟩
    .exact ji hb
    .exact jh ⟨e3,l3,by omega⟩
  .rw[h1,h2];exact jh ⟨rfl,hp,aV _⟩
structure Zl(s:jm)(ss ss':Ps->List jK×Ps):Prop where
 bad:∀p,kD p->kD (ss p).2
 ZB:∀p,kD p->kD (ss' p).2
 rel:∀p p',Live s p p'->oP s p.k.at' (ss p) (ss' p')
theorem ait{ss ss':Ps->List jK×Ps}(h:Zl s ss ss'):Ko s (xZ s ss) (xZ (kT s) ss'):=
 ⟨λ_ hp=>kD.close (t:=[125]) (h.bad _ (hp.jW (t:=[123]) (by simp))) (by simp),λ_ hp=>kD.close (t:=[125]) (h.ZB _ (hp.jW (t:=[123]) (by simp))) (by simp),λp p' hp=>by
   unfold xZ;rcases hp.jW (t:=[123]) (by simp)with⟨b,b'⟩|⟨l,m⟩
   .exact ji ⟨kD.close (h.bad _ b) (by simp),kD.close (h.ZB _ b') (by simp)⟩
   rcases h.rel _ _ l with⟨b,b'⟩|⟨e2,l2,m2⟩
   .exact ji ⟨kD.close b (by simp),kD.close b' (by simp)⟩
   rcases l2.close (t:=[125]) (by simp)with hb|⟨l3,m3⟩
   .exact ji hb
   .exact jh ⟨e2,l3,by refine fD ?_ m3;omega⟩⟩
theorem afJ(s:jm):∀d:Nat,Zl s (oH s d) (oH (kT s) d)
 |0=>⟨λ_ h=>h,λ_ h=>h,λ_ _ hp=>jh ⟨rfl,hp,aV _⟩⟩
 |d+1=>⟨λp hp=>by rw[oH,Rl (λ_=>Ro _) _ _ (kP.of hp)];exact hp,λp hp=>by rw[oH,Rl (λ_=>Ro _) _ _ (kP.of hp)];exact hp,λp p' hp=>by
  have h0:=hp.oQ;have hz:=Dt s;rw[oH,oH];exact afB (λ_=>Ro _) (λ_=>Ro _) (λ_ _ hq=>aqV (TT s (d+1)) (TT s d) (ait (afJ s d)) (by omega) (by omega) hq) _ _ _ _ _ hp (by omega) (by omega)⟩
theorem abp(p:Ps):p.fail.en≠0:=by
 show(if p.en=0 then (1:Int)else p.en)≠0;split
 .omega
 .assumption
theorem QF{r:List jK×Ps}(h:r.2.k.kind≠1):(uI r).1=[]/\(uI r).2.1≠0:=by
 have e:yS r.2=r.2.fail:=by unfold yS;rw[jk h]
 unfold uI;rw[e,jk (abp r.2)];exact⟨rfl,abp r.2⟩
theorem aoz(s:jm)(hs:s.size+3<=4000):(mY (kT s)).1=(mY s).1/\((mY (kT s)).2.1=0↔(mY s).2.1=0):=by
 unfold mY;rw[jk (by rw[Dt];omega),jk (by omega)];have h1:=NJ s 0 (by omega);have hl:Live s (vT s) (vT (kT s)):=⟨rfl,rfl,ae0 s 0 (by omega),h1.1.oQ,h1.1.bd⟩;have hr:=(afJ s 21).rel _ _ hl;generalize oH s 21 (vT s)=r at *;generalize oH (kT s) 21 (vT (kT s))=r' at *;rcases hr with⟨b,b'⟩|⟨e,l,-⟩
 .have f:=QF (r:=r) (by rw[b.1];omega);have f':=QF (r:=r') (by rw[b'.1];omega);exact⟨by rw[f.1,f'.1],⟨λh=>jq h f'.2,λh=>jq h f.2⟩⟩
 .by_cases hk:r.2.k.kind=1
  .have hk':r'.2.k.kind=1:=by rw[<-l.kind];exact hk
   have e1:yS r.2=r.2:=by unfold yS;rw[jl hk]
   have e2:yS r'.2=r'.2:=by unfold yS;rw[jl hk']
   have en:=l.en;unfold uI;rw[e1,e2,<-en];split
   .exact⟨e.symm,Iff.rfl⟩
   .exact⟨rfl,Iff.rfl⟩
  .have f:=QF (r:=r) hk;have f':=QF (r:=r') (by rw[<-l.kind];exact hk);exact⟨by rw[f.1,f'.1],⟨λh=>jq h f'.2,λh=>jq h f.2⟩⟩
theorem aiI(s:jm)(hs:s.size+3<=4000):(lV (kT s)).1=(lV s).1/\((lV (kT s)).2.1=0↔(lV s).2.1=0):=by
 obtain⟨h1,h2⟩:=aoz s hs;unfold lV;by_cases hp:(mY s).2.1=0
 .rw[jk (show¬(mY (kT s)).2.1≠0 by rw[h2.2 hp];simp),jk (show¬(mY s).2.1≠0 by rw[hp];simp),h1];exact⟨rfl,Iff.rfl⟩
 .have hp':(mY (kT s)).2.1≠0:=λh=>hp (h2.1 h);rw[jl hp,jl hp'];exact⟨rfl,⟨λh=>jq h hp',λh=>jq h hp⟩⟩
end
def tq(s:jm)(b:Bool):jm×Int×Int:=if b then Bo s else zW s
theorem aao(s:jm)(b:Bool):(tq s b).2.1=(lV s).2.1:=by
 by_cases h:(lV s).2.1=0
 .have hn:¬((lV s).2.1≠0):=λhh=>hh h;cases b with
  |true=>show(Bo s).2.1=_;unfold Bo;rw[jk hn,h]
  |false=>show(zW s).2.1=_;unfold zW;rw[jk hn,h]
 .cases b with
  |true=>show(Bo s).2.1=_;unfold Bo;rw[jl h]
  |false=>show(zW s).2.1=_;unfold zW;rw[jl h]
theorem OG(s:jm)(b:Bool)(h:(lV s).2.1=0):tq s b=(strOfNums (xE (if b then kS (lV s).1 else (lV s).1)),0,0):=by
 have hn:¬((lV s).2.1≠0):=λhh=>hh h;cases b with
 |true=>show Bo s=_;unfold Bo;rw[jk hn];rfl
 |false=>show zW s=_;unfold zW;rw[jk hn];rfl
def qE(s:jm)(b:Bool)(v:Vw)(x0 x1 x2 x3 x4 x5 x6 x7:Int):Out:=
 ru v (tq s b).1.data.toList (lX (tq s b).1.data.toList).jD x0 x1 x2 x3 x4 x5 x6 x7
structure CO(o o':Out):Prop where
 status:o.status=o'.status
 jG:∀i:Nat,i<8->o.jG.getD i 0=o'.jG.getD i 0
 jP:o.jP=o'.jP
theorem CO.refl(o:Out):CO o o:=⟨rfl,λ_ _=>rfl,rfl⟩
theorem ajp{jG:List Int}{r:Option oz}{o o':Out}(h:EZ jG r o)(h':EZ jG r o'):CO o o':=by
 cases r with
 |none=>
  have e:o=⟨1,jG,[]⟩:=h;have e':o'=⟨1,jG,[]⟩:=h';rw[e,e'];exact CO.refl _
 |some p=>
  obtain⟨a,b,c⟩:=h;obtain⟨a',b',c'⟩:=h';exact⟨a.trans a'.symm,λi hi=>(b i hi).trans (b' i hi).symm,c.trans c'.symm⟩
theorem ajq{jG:List Int}{r:Option oz}{o:Out}(h:EZ jG r o):o.status=0\/o.status=1:=by
 cases r with
 |none=>
  have e:o=⟨1,jG,[]⟩:=h;rw[e];exact jh rfl
 |some p=>exact ji h.1
theorem agw{v:Vw}(hr:v.FZ)(hv:AO v=true):nH v:=by
 have hg:=YH hv;exact⟨hr,hg.JG,hg.JF,hg.JE⟩
theorem Wp(s:jm)(h:(lV s).2.1=0):(∀b,vX (tq s b).1.data.toList=true)/\∀(v:Vw)(x0 x1 x2 x3 x4 x5 x6 x7:Int),v.FZ->(∀x∈[x0,x1,x2,x3,x4,x5,x6,x7],jO x)->
 CO (qE s false v x0 x1 x2 x3 x4 x5 x6 x7) (qE s true v x0 x1 x2 x3 x4 x5 x6 x7)/\((qE s false v x0 x1 x2 x3 x4 x5 x6 x7).status=0\/(qE s false v x0 x1 x2 x3 x4 x5 x6 x7).status=1\/(qE s false v x0 x1 x2 x3 x4 x5 x6 x7).status=3):=by
 obtain⟨zs,t,hm,ht,hk,hc⟩:=aiH s h;obtain⟨a1,a2⟩:=aaq hm ht hk hc (ji rfl);obtain⟨b1,b2⟩:=aaq hm ht hk hc (jh rfl);have e1:=OG s false h;have e2:=OG s true h;refine⟨λb=>?_,λv x0 x1 x2 x3 x4 x5 x6 x7 hr hx=>?_⟩
 .cases b with
  |false=>rw[e1];exact a1
  |true=>rw[e2];exact b1
 .unfold qE;rw[e1,e2];cases hv:AO v with
  |true=>
   have c1:=a2 v x0 x1 x2 x3 x4 x5 x6 x7 (agw hr hv) hv hx;have c2:=b2 v x0 x1 x2 x3 x4 x5 x6 x7 (agw hr hv) hv hx;refine⟨ajp c1 c2,?_⟩;rcases ajq c1 with e|e
   .exact ji e
   .exact jh (ji e)
  |false=>
   have f:∀bs fu,ru v bs fu x0 x1 x2 x3 x4 x5 x6 x7=⟨3,[x0,x1,x2,x3,x4,x5,x6,x7],[]⟩:=λbs fu=>by
    unfold ru Az;rw[hv,jk (by simp)]
   rw[f,f];exact⟨CO.refl _,jh (jh rfl)⟩
theorem aap(s:jm)(hs:s.size+3<=4000):((lV (kT s)).2.1=0↔(lV s).2.1=0)/\((lV s).2.1=0->tq (kT s) false=tq s false):=by
 obtain⟨h1,h2⟩:=aiI s hs;exact⟨h2,λh=>by rw[OG s false h,OG (kT s) false (h2.2 h),h1]⟩
theorem acS(s:jm)(hs:4000<s.size):(lV s).2.1≠0:=by
 have hp:mY s=([],1,0):=by unfold mY;rw[jl hs]
 unfold lV;rw[hp,jl (by simp)];simp
end
section
open Go.RowKit
open Hx (Rd Pk Vw St Mc jO Out Ls)
attribute [local go_sem ↓] Go.wp_at_zero Go.wp_at_succ
attribute [local go_sem] kL
section
variable {w w':jo}
theorem aas(s:jm)(b:Bool)(w:jo):Calls prog 12 #[.string s,.bool b] w λe w'=>e=.returned (.tuple #[.string (tq s b).1,Im (tq s b).2.1,Im (tq s b).2.2])/\w.grownBy w' none:=by
 cases b with
 |true=>exact aiY s w
 |false=>exact aar s w
def agF:jr:=.agg #[.int .u8 0,Nl,Im 0,Im 0,Im 0,Im 0,Im 0,Im 0,Im 0,Im 0]
theorem apv(s:jm)(b:Bool)(h:(lV s).2.1≠0)(ar af aa:Option Addr)(nr cr nf cf na ca:Nat)(x0 x1 x2 x3 x4 x5 x6 x7:Int):
 Calls prog 26 #[.string s,.bool b,.agg #[.slice ar nr cr,.slice af nf cf,.slice aa na ca],.agg #[Im x0,Im x1,Im x2,Im x3,Im x4,Im x5,Im x6,Im x7]] w λe w'=>e=.returned (.tuple #[agF,.bool false])/\Below w.heap.size w w':=by
 rw[<-aao s b]at h;have HC:Hid (∀y,Calls prog 12 #[.string s,.bool b] y λe w'=>e=.returned (.tuple #[.string (tq s b).1,Im (tq s b).2.1,Im (tq s b).2.2])/\y.grownBy w' none):=aas s b;generalize (tq s b).2.1=er at *;generalize (tq s b).2.2=ea at *;generalize (tq s b).1=co at *;have d1:(er==0)=false:=by simpa using h
 have d2:(er !=0)=true:=by simpa using h
 go_enter func26,ntmps26;go_wp2_with fail;refine(HC.out _).mono ?_;rintro e w1 ⟨rfl,g1⟩;have b1:=(Ou w _ _ _).later (Below.wY g1);clear g1;have hf:∀j,w1.frozen? (Ad (w.heap.size+1+1) j)=false:=λj=>oh b1.b2;have hc:∀j,w1.cell? (Ad (w.heap.size+1+1) j)=_:=λj=>jH b1.b2;have r0:=hc 0;have r1:=hc 1;have r2:=hc 2;have r3:=hc 3;have r4:=hc 4;have r5:=hc 5;have r6:=hc 6;have r7:=hc 7;have r8:=hc 8;have r9:=hc 9;have HB1:Hid (Cb w w1 _ _ _):=b1;clear b1 hc HC;go_wp2_with fail;obtain⟨k1,k2⟩:=QZ w1 (w.heap.size+1+1) 35 _ _ _ _ _ _ _ _ _ _ (.int .u8 0) (Nl) (Im 0) (Im 0) (Im 0) (Im 0) (Im 0) (Im 0) (Im 0) (Im 0) HB1.out.b2;refine cu (v:=.tuple #[agF,.bool false]) ?_ rfl ⟨rfl,?_⟩
 .exact Wj _ _ (w.heap.size+1+1) _ _ _ _ _ _ _ _ _ _ _ rfl rfl k1
 .exact HB1.out.below.trans ⟨k2.os,k2.tape,k2.output,k2.size,λk hk=>k2.block k (by have:=HB1.out.lt;omega) (by simp;omega)⟩
theorem apt(s:jm)(b:Bool)(h:(lV s).2.1=0)(v:Vw)(ar af aa:Option Addr)(nr cr nf cf na ca:Nat)(x0 x1 x2 x3 x4 x5 x6 x7:Int)(hv:wu w.heap.size w ar af aa nr nf na v)(hT:rW w)(hone:1<w.heap.size)(hx:∀x∈[x0,x1,x2,x3,x4,x5,x6,x7],jO x):
 Calls prog 26 #[.string s,.bool b,.agg #[.slice ar nr cr,.slice af nf cf,.slice aa na ca],.agg #[Im x0,Im x1,Im x2,Im x3,Im x4,Im x5,Im x6,Im x7]] w λe w'=>∃va,e=.returned (.tuple #[tZ (qE s b v x0 x1 x2 x3 x4 x5 x6 x7).status va (qE s b v x0 x1 x2 x3 x4 x5 x6 x7).jG,.bool true])/\
  w'.ownsRow w.heap.size 76 2 va (qE s b v x0 x1 x2 x3 x4 x5 x6 x7).jP.length (oK (qE s b v x0 x1 x2 x3 x4 x5 x6 x7).jP)/\Below w.heap.size w w':=by
 have ht:=(Wp s h).1 b;have h0:(tq s b).2.1=0:=(aao s b).trans h;have HC:Hid (∀y,Calls prog 12 #[.string s,.bool b] y λe w'=>e=.returned (.tuple #[.string (tq s b).1,Im 0,Im (tq s b).2.2])/\y.grownBy w' none):=λy=>by
  have:=aas s b y;rw[h0]at this;exact this
 unfold qE;clear h h0;generalize (tq s b).2.2=ea at *;generalize (tq s b).1=co at *;obtain⟨hl,hbad⟩:=WU ht;have hfin:=Hx.Qk _ hl hbad;have hn0:0<=(lX co.data.toList).jD:=by have:=hfin.jD;omega
 have hn1:(lX co.data.toList).jD<=40000040:=hfin.vM;clear hl hbad hfin;generalize hne:(lX co.data.toList).jD=jD at *;generalize hou:ru v co.data.toList jD x0 x1 x2 x3 x4 x5 x6 x7=ou at *;have HOU:=jB hou;have HNE:=jB hne;clear hou hne;obtain⟨sa,rs,nK⟩:=ou;obtain⟨z0,z1,z2,z3,z4,z5,z6,z7,Y9⟩:∃z0 z1 z2 z3 z4 z5 z6 z7:Int,Hid (∀va,tZ sa va rs=.agg #[.int .u8 sa,va,Im z0,Im z1,Im z2,Im z3,Im z4,Im z5,Im z6,Im z7]):=⟨_,_,_,_,_,_,_,_,λva=>rfl⟩;show Calls _ _ _ _ λe w'=>∃va,e=.returned (.tuple #[tZ sa va rs,.bool true])/\w'.ownsRow w.heap.size 76 2 va nK.length (oK nK)/\Below w.heap.size w w';simp only[Y9.out];go_enter func26,ntmps26;go_wp2_with fail;refine(HC.out _).mono ?_;rintro e w1 ⟨rfl,g1⟩;have b1:=(Ou w _ _ _).later (Below.wY g1);clear g1;have HB1:=b1;go_wp2_with fail;refine(acQ w1 co).mono ?_;rintro e w2 ⟨hb2,h⟩;obtain⟨C,yU,rfl,hcd⟩:∃C,w1.heap.size<=C/\e=.returned (.tuple #[Pt C 0,Im 0])/\AQ w2 C (lX co.data.toList):=by
  rcases h with⟨_,C,h1,h2,h3⟩|⟨ht',_⟩
  .exact⟨C,h1,h2,h3⟩
  .rw[ht]at ht';cases ht'
 have b2:=b1.later hb2;have v0:w2.cell? (Ad w.heap.size 0)=some (.slice ar nr cr):=jH b2.b0;have v1:w2.cell? (Ad w.heap.size 1)=some (.slice af nf cf):=jH b2.b0;have v2:w2.cell? (Ad w.heap.size 2)=some (.slice aa na ca):=jH b2.b0;have y0:w2.cell? (Ad (w.heap.size+1) 0)=some (Im x0):=jH b2.b1;have y1:w2.cell? (Ad (w.heap.size+1) 1)=some (Im x1):=jH b2.b1;have y2:w2.cell? (Ad (w.heap.size+1) 2)=some (Im x2):=jH b2.b1;have y3:w2.cell? (Ad (w.heap.size+1) 3)=some (Im x3):=jH b2.b1;have y4:w2.cell? (Ad (w.heap.size+1) 4)=some (Im x4):=jH b2.b1;have y5:w2.cell? (Ad (w.heap.size+1) 5)=some (Im x5):=jH b2.b1;have y6:w2.cell? (Ad (w.heap.size+1) 6)=some (Im x6):=jH b2.b1;have y7:w2.cell? (Ad (w.heap.size+1) 7)=some (Im x7):=jH b2.b1;have HN:Hid (∀n,Calls prog 17 #[Pt C 0] (w2.drewN n) λe w'=>e=.returned (Im jD)/\w'=w2.drewN n):=λn=>by
  have:=ado (w:=w2.drewN n) (C:=C) (n:=jD) (by rw[bH,<-HNE.out];exact hcd.jD);exact this
 have hbw:Below w.heap.size w w2:=b2.below;have HR:Hid (∀n,Calls prog 16 #[Pt C 0,.agg #[.slice ar nr cr,.slice af nf cf,.slice aa na ca],.agg #[Im x0,Im x1,Im x2,Im x3,Im x4,Im x5,Im x6,Im x7],Im jD] (w2.drewN n) λe w'=>∃a c,e=.returned (.agg #[.int .u8 sa,.slice a nK.length c,Im z0,Im z1,Im z2,Im z3,Im z4,Im z5,Im z6,Im z7])/\w'.ownsRow w2.heap.size 76 2 (.slice a nK.length c) nK.length (oK nK)/\Below w2.heap.size w2 w'):=λn=>by
  have hd:Below w2.heap.size w2 (w2.drewN n):=⟨rfl,rfl,rfl,aj _,λ_ _=>rfl⟩;have hlt:=b2.lt;refine(aeU (w2.drewN n) C co.data.toList ht (hcd.later hd) v ar af aa nr cr nf cf na ca x0 x1 x2 x3 x4 x5 x6 x7 jD (hv.later (hbw.trans (hd.mono (by omega))) (by show _<=w2.heap.size;omega)) (hT.later (hbw.trans (hd.mono (by omega))) hone) (by show 1<w2.heap.size;omega) hx (by omega)).mono ?_;rintro e w' ⟨va,h1,h2,h3⟩;rw[HOU.out]at h1 h2;have h1:e=.returned (tZ sa va rs):=h1;rw[Y9.out]at h1;obtain⟨a,c,rfl⟩:=AB h2;exact⟨a,c,h1,h2,hd.trans h3⟩
 have HB2:Hid (Cb w w2 _ _ _):=b2;clear hb2 h hcd b2 b1 HB1 hbw hv hT hx ht HC;go_wp2_with fail;refine nJ 5 (by kernel_rfl) (by kernel_rfl) ?_;simp only[aC,aO,aG,aQ];repeat (go_big_quiet_step ((go_at_call 17;exact dN (HN.out _))))
 refine bF ?_;intro _ hw';obtain⟨k3,hw''⟩:=hw';subst hw'';go_wp2_with fail;refine(HR.out _).mono ?_;rintro e w3 ⟨a,c,rfl,hrow,hb3⟩;have b3:=HB2.out.later hb3;have hf:∀j,w3.frozen? (Ad (w.heap.size+1+1) j)=false:=λj=>oh b3.b2;have hc:∀j,w3.cell? (Ad (w.heap.size+1+1) j)=_:=λj=>jH b3.b2;have r0:=hc 0;have r1:=hc 1;have r2:=hc 2;have r3:=hc 3;have r4:=hc 4;have r5:=hc 5;have r6:=hc 6;have r7:=hc 7;have r8:=hc 8;have r9:=hc 9;have HB3:Hid (Cb w w3 _ _ _):=b3;have HS:=jB HB2.out.lt;have HW:=jB hrow;clear b3 hb3 hc hrow HB2 HR HN;go_wp2_with fail;obtain⟨k1,k2⟩:=QZ w3 (w.heap.size+1+1) 35 _ _ _ _ _ _ _ _ _ _ (.int .u8 sa) (.slice a nK.length c) (Im z0) (Im z1) (Im z2) (Im z3) (Im z4) (Im z5) (Im z6) (Im z7) HB3.out.b2;refine cu (v:=.tuple #[.agg #[.int .u8 sa,.slice a nK.length c,Im z0,Im z1,Im z2,Im z3,Im z4,Im z5,Im z6,Im z7],.bool true]) ?_ rfl ?_
 .exact Wj _ _ (w.heap.size+1+1) _ _ _ _ _ _ _ _ _ _ _ rfl rfl k1
 .refine⟨_,rfl,?_,?_⟩
  .have hs:=HS.out;exact(Dq HW.out (by omega)).kept k2 (Ny HW.out (by omega))
  .exact HB3.out.below.trans ⟨k2.os,k2.tape,k2.output,k2.size,λk hk=>k2.block k (by have:=HB3.out.lt;omega) (by simp;omega)⟩
end
end
section
open Go.RowKit
open Hx (Rd Pk Vw St Mc jO Out Ls kT)
attribute [local go_sem ↓] Go.wp_at_zero Go.wp_at_succ
attribute [local go_sem] kL
section
variable {w w':jo}{x:Raw}{x0 x1 x2 x3 x4 x5 x6 x7 z0 z1 z2 z3 z4 z5 z6 z7 sa:Int}{n:Nat}{nK:List (Int×Int)}
def I7(w:jo)(x:Raw)(x0 x1 x2 x3 x4 x5 x6 x7:Int)(s:jm)(b:Bool)(sa:Int)(n:Nat)(z0 z1 z2 z3 z4 z5 z6 z7:Int)(nK:List (Int×Int)):Prop:=
 ∀y,Below w.heap.size w y->Calls prog 26 #[.string s,.bool b,.agg #[.slice x.ar x.nr x.cr,.slice x.af x.nf x.cf,.slice x.aa x.na x.ca],.agg #[Im x0,Im x1,Im x2,Im x3,Im x4,Im x5,Im x6,Im x7]] y λe w'=>∃a c,e=.returned (.tuple #[.agg #[.int .u8 sa,.slice a n c,Im z0,Im z1,Im z2,Im z3,Im z4,Im z5,Im z6,Im z7],.bool true])/\w'.ownsRow y.heap.size 76 2 (.slice a n c) n (oK nK)/\Below y.heap.size y w'
def KU(x:Raw)(x0 x1 x2 x3 x4 x5 x6 x7:Int)(s:jm)(b:Bool):Prop:=
 ∀y,Calls prog 26 #[.string s,.bool b,.agg #[.slice x.ar x.nr x.cr,.slice x.af x.nf x.cf,.slice x.aa x.na x.ca],.agg #[Im x0,Im x1,Im x2,Im x3,Im x4,Im x5,Im x6,Im x7]] y λe w'=>e=.returned (.tuple #[.agg #[.int .u8 0,Nl,Im 0,Im 0,Im 0,Im 0,Im 0,Im 0,Im 0,Im 0],.bool false])/\Below y.heap.size y w'
theorem QW(s:jm)(b:Bool)(h:(lV s).2.1≠0):KU x x0 x1 x2 x3 x4 x5 x6 x7 s b:=λ_=>apv s b h _ _ _ _ _ _ _ _ _ x0 x1 x2 x3 x4 x5 x6 x7
theorem NI(s t:jm)(b:Bool)(v:Vw)(ht:(lV t).2.1=0)(hs:CO (qE s false v x0 x1 x2 x3 x4 x5 x6 x7) (qE t b v x0 x1 x2 x3 x4 x5 x6 x7))(hv:wu w.heap.size w x.ar x.af x.aa x.nr x.nf x.na v)(hT:rW w)(hone:1<w.heap.size)(hx:∀x∈[x0,x1,x2,x3,x4,x5,x6,x7],jO x):
 I7 w x x0 x1 x2 x3 x4 x5 x6 x7 t b (qE s false v x0 x1 x2 x3 x4 x5 x6 x7).status (qE s false v x0 x1 x2 x3 x4 x5 x6 x7).jP.length ((qE s false v x0 x1 x2 x3 x4 x5 x6 x7).jG.getD 0 0) ((qE s false v x0 x1 x2 x3 x4 x5 x6 x7).jG.getD 1 0) ((qE s false v x0 x1 x2 x3 x4 x5 x6 x7).jG.getD 2 0) ((qE s false v x0 x1 x2 x3 x4 x5 x6 x7).jG.getD 3 0) ((qE s false v x0 x1 x2 x3 x4 x5 x6 x7).jG.getD 4 0) ((qE s false v x0 x1 x2 x3 x4 x5 x6 x7).jG.getD 5 0) ((qE s false v x0 x1 x2 x3 x4 x5 x6 x7).jG.getD 6 0) ((qE s false v x0 x1 x2 x3 x4 x5 x6 x7).jG.getD 7 0) (qE s false v x0 x1 x2 x3 x4 x5 x6 x7).jP:=λy hy=>by
 have hz:=hy.size;refine(apt t b ht v x.ar x.af x.aa x.nr x.cr x.nf x.cf x.na x.ca x0 x1 x2 x3 x4 x5 x6 x7 (hv.later hy hz) (hT.later hy hone) (by omega) hx).mono ?_;rintro e w' ⟨va,h1,h2,h3⟩;rw[<-hs.jP]at h2;unfold tZ at h1;rw[<-hs.status,<-hs.jG 0 (by omega),<-hs.jG 1 (by omega),<-hs.jG 2 (by omega),<-hs.jG 3 (by omega),<-hs.jG 4 (by omega),<-hs.jG 5 (by omega),<-hs.jG 6 (by omega),<-hs.jG 7 (by omega)]at h1;obtain⟨a,c,rfl⟩:=AB h2;exact⟨a,c,h1,h2,h3⟩
structure GI(w W:jo)(A B C:Nat)(a1 a2 a3:Option Addr)(n c1 c2 c3:Nat)(sa z0 z1 z2 z3 z4 z5 z6 z7:Int)(nK:List (Int×Int)):Prop where
 below:Below w.heap.size w W
 a:W.heap[A]? =some (.cells #[.int .u8 sa,.slice a1 n c1,Im z0,Im z1,Im z2,Im z3,Im z4,Im z5,Im z6,Im z7] 35)
 b:W.heap[B]? =some (.cells #[.int .u8 sa,.slice a2 n c2,Im z0,Im z1,Im z2,Im z3,Im z4,Im z5,Im z6,Im z7] 35)
 c:W.heap[C]? =some (.cells #[.int .u8 sa,.slice a3 n c3,Im z0,Im z1,Im z2,Im z3,Im z4,Im z5,Im z6,Im z7] 35)
 ra:W.ownsRow w.heap.size 76 2 (.slice a1 n c1) n (oK nK)
 rb:W.ownsRow w.heap.size 76 2 (.slice a2 n c2) n (oK nK)
 rc:W.ownsRow w.heap.size 76 2 (.slice a3 n c3) n (oK nK)
theorem GI.grow{W y:jo}{A B C c1 c2 c3:Nat}{a1 a2 a3:Option Addr}(h:GI w W A B C a1 a2 a3 n c1 c2 c3 sa z0 z1 z2 z3 z4 z5 z6 z7 nK)(hg:W.grownBy y none):GI w y A B C a1 a2 a3 n c1 c2 c3 sa z0 z1 z2 z3 z4 z5 z6 z7 nK:=by
 have hz:=h.below.size;have hb:∀k,k<W.heap.size->y.heap[k]? =W.heap[k]? :=λk hk=>hg.block k hk (by simp);have hr:∀{a:Option Addr}{c:Nat},W.ownsRow w.heap.size 76 2 (.slice a n c) n (oK nK)->y.ownsRow w.heap.size 76 2 (.slice a n c) n (oK nK):=λ{a c} hr=>hr.kept (w':=y) (row:=none) hg (by cases Value.ownBlock (.slice a n c)<;>simp);exact⟨h.below.trans ⟨hg.os,hg.tape,hg.output,hg.size,λk hk=>hb k (by omega)⟩,(hb _ (lN h.a)).trans h.a,(hb _ (lN h.b)).trans h.b,(hb _ (lN h.c)).trans h.c,hr h.ra,hr h.rb,hr h.rc⟩
theorem EJ{W y:jo}{b:Nat}{a:Option Addr}{c:Nat}{ks:List jr}(hr:W.ownsRow b 76 2 (.slice a n c) n ks)(hb:Below W.heap.size W y):y.ownsRow b 76 2 (.slice a n c) n ks:=
 hr.kept (w':=y) (row:=none) ⟨hb.os,hb.tape,hb.output,hb.size,λk hk _=>hb.block k hk⟩ (by cases Value.ownBlock (.slice a n c)<;>simp)
theorem FM{W:jo}{g:Nat}{T:jv}{v0 v1 v2 v3 v4 v5 v6 v7 v8 v9:jr}(h:W.heap[g]? =some (.cells #[v0,v1,v2,v3,v4,v5,v6,v7,v8,v9] T)):W.cell? (Ad g 0)=some v0/\W.cell? (Ad g 1)=some v1/\W.cell? (Ad g 2)=some v2/\W.cell? (Ad g 3)=some v3/\W.cell? (Ad g 4)=some v4/\W.cell? (Ad g 5)=some v5/\W.cell? (Ad g 6)=some v6/\W.cell? (Ad g 7)=some v7/\W.cell? (Ad g 8)=some v8/\W.cell? (Ad g 9)=some v9:=
 ⟨jH h,jH h,jH h,jH h,jH h,jH h,jH h,jH h,jH h,jH h⟩
theorem aii(s:jm)(hsz:s.size+3<=9223372036854775807)(hT:rW w)(hone:1<w.heap.size)(h1:KU x x0 x1 x2 x3 x4 x5 x6 x7 s false)(h2:KU x x0 x1 x2 x3 x4 x5 x6 x7 s true)(h3:KU x x0 x1 x2 x3 x4 x5 x6 x7 (kT s) false):
 Calls prog 7 #[.string s,.agg #[.slice x.ar x.nr x.cr,.slice x.af x.nf x.cf,.slice x.aa x.na x.ca],.agg #[Im x0,Im x1,Im x2,Im x3,Im x4,Im x5,Im x6,Im x7]] w λe w'=>e=.returned (.bool true)/\Below w.heap.size w w':=by
 have HR1:=jB h1;have HR2:=jB h2;have HR3:=jB h3;clear h1 h2 h3;have hq1:¬(9223372036854775807<s.size+3):=by omega
 have hq2:decide (9223372036854775807<s.size+3)=false:=by simp;omega
 clear hsz;go_enter func7,ntmps7;go_wp2_with fail;have a0:=Tf w x x0 x1 x2 x3 x4 x5 x6 x7;refine(Vh (hT.later a0.below hone) (by have:=a0.lt;omega)).mono ?_;rintro e w1 ⟨rfl,hb1⟩;have a1:=a0.later hb1;obtain⟨q0,q1,q2,r0,r1,r2,r3,r4,r5,r6,r7⟩:=a1.cells;have HA1:=jB a1;clear a0 hb1 a1 hT;go_wp2_with fail;refine(HR1.out _).mono ?_;rintro e w2 ⟨rfl,hb2⟩;have a2:=HA1.out.later hb2;obtain⟨q0,q1,q2,r0,r1,r2,r3,r4,r5,r6,r7⟩:=a2.cells;obtain⟨n0,n1,m0,m1⟩:=a2.Ey;have HA2:=jB a2;have sH:=jB HA1.out.lt;clear hb2 a2 HR1;go_wp2_with fail;have CS:Below w2.heap.size w2 (w2.alloc (.cells #[.int .u8 0,Nl,Im 0,Im 0,Im 0,Im 0,Im 0,Im 0,Im 0,Im 0] 35)):=Below.wY (ah _ _ none);refine(HR2.out _).mono ?_;rintro e w3 ⟨rfl,hb3⟩;have a3:=(HA2.out.later CS).later hb3;obtain⟨q0,q1,q2,r0,r1,r2,r3,r4,r5,r6,r7⟩:=a3.cells;obtain⟨n0,n1,m0,m1⟩:=a3.Ey;have E5:=jB a3;have HB3:=jB hb3;clear CS;clear hb3 a3 HR2;go_wp2_with fail;have D6:Below w3.heap.size w3 (w3.alloc (.cells #[.int .u8 0,Nl,Im 0,Im 0,Im 0,Im 0,Im 0,Im 0,Im 0,Im 0] 35)):=Below.wY (ah _ _ none);refine(HR3.out _).mono ?_;rintro e w4 ⟨rfl,hb4⟩;have a4:=(E5.out.later D6).later hb4;obtain⟨q0,q1,q2,r0,r1,r2,r3,r4,r5,r6,r7⟩:=a4.cells;obtain⟨n0,n1,m0,m1⟩:=a4.Ey;have GL:=jB a4;have HB4:=jB hb4;clear D6;clear hb4 a4 HR3;have HF:Hid (Below w.heap.size w (w4.alloc (.cells #[.int .u8 0,Nl,Im 0,Im 0,Im 0,Im 0,Im 0,Im 0,Im 0,Im 0] 35))):=(GL.out.later (Below.wY (ah w4 (.cells #[.int .u8 0,Nl,Im 0,Im 0,Im 0,Im 0,Im 0,Im 0,Im 0,Im 0] 35) none))).below
 go_wp2_with fail;go_ret;exact⟨rfl,HF.out⟩
theorem aic(s:jm)(hsz:s.size+3<=9223372036854775807)(hT:rW w)(hone:1<w.heap.size)(hn:nK.length=n)(hn2:n<=256)(hsa:sa=0\/sa=1\/sa=3)(h1:I7 w x x0 x1 x2 x3 x4 x5 x6 x7 s false sa n z0 z1 z2 z3 z4 z5 z6 z7 nK)(h2:I7 w x x0 x1 x2 x3 x4 x5 x6 x7 s true sa n z0 z1 z2 z3 z4 z5 z6 z7 nK)(h3:I7 w x x0 x1 x2 x3 x4 x5 x6 x7 (kT s) false sa n z0 z1 z2 z3 z4 z5 z6 z7 nK):
 Calls prog 7 #[.string s,.agg #[.slice x.ar x.nr x.cr,.slice x.af x.nf x.cf,.slice x.aa x.na x.ca],.agg #[Im x0,Im x1,Im x2,Im x3,Im x4,Im x5,Im x6,Im x7]] w λe w'=>e=.returned (.bool true)/\Below w.heap.size w w':=by
 have Sr:Hid (sa=0\/sa=1\/sa=3):=hsa;have HR1:=jB h1;have HR2:=jB h2;have HR3:=jB h3;clear h1 h2 h3 hsa;have hq1:¬(9223372036854775807<s.size+3):=by omega
 have hq2:decide (9223372036854775807<s.size+3)=false:=by simp;omega
 clear hsz;go_enter func7,ntmps7;go_wp2_with fail;have a0:=Tf w x x0 x1 x2 x3 x4 x5 x6 x7;refine(Vh (hT.later a0.below hone) (by have:=a0.lt;omega)).mono ?_;rintro e w1 ⟨rfl,hb1⟩;have a1:=a0.later hb1;obtain⟨q0,q1,q2,r0,r1,r2,r3,r4,r5,r6,r7⟩:=a1.cells;have HA1:=jB a1;clear a0 hb1 a1 hT;go_wp2_with fail;refine(HR1.out _ HA1.out.below).mono ?_;rintro e w2 ⟨e1,c1,rfl,ND,hb2⟩;have a2:=HA1.out.later hb2;obtain⟨q0,q1,q2,r0,r1,r2,r3,r4,r5,r6,r7⟩:=a2.cells;obtain⟨n0,n1,m0,m1⟩:=a2.Ey;have HA2:=jB a2;have KQ:=jB ND;clear ND;have sH:=jB HA1.out.lt;clear hb2 a2 HR1;go_wp2_with fail;have CS:Below w2.heap.size w2 (w2.alloc (.cells #[.int .u8 sa,.slice e1 n c1,Im z0,Im z1,Im z2,Im z3,Im z4,Im z5,Im z6,Im z7] 35)):=Below.wY (ah _ _ none);refine(HR2.out _ (HA2.out.later CS).below).mono ?_;rintro e w3 ⟨e2,c2,rfl,NG,hb3⟩;have a3:=(HA2.out.later CS).later hb3;obtain⟨q0,q1,q2,r0,r1,r2,r3,r4,r5,r6,r7⟩:=a3.cells;obtain⟨n0,n1,m0,m1⟩:=a3.Ey;have E5:=jB a3;have HB3:=jB hb3;clear CS;have KR:=jB NG;clear NG;clear hb3 a3 HR2;go_wp2_with fail;have D6:Below w3.heap.size w3 (w3.alloc (.cells #[.int .u8 sa,.slice e2 n c2,Im z0,Im z1,Im z2,Im z3,Im z4,Im z5,Im z6,Im z7] 35)):=Below.wY (ah _ _ none);refine(HR3.out _ (E5.out.later D6).below).mono ?_;rintro e w4 ⟨e3,c3,rfl,ro3,hb4⟩;have a4:=(E5.out.later D6).later hb4;obtain⟨q0,q1,q2,r0,r1,r2,r3,r4,r5,r6,r7⟩:=a4.cells;obtain⟨n0,n1,m0,m1⟩:=a4.Ey;have GL:=jB a4;have HB4:=jB hb4;clear D6;have Zj:=jB ro3;clear ro3;clear hb4 a4 HR3
 have HI4:Hid (GI w (w4.alloc (.cells #[.int .u8 sa,.slice e3 n c3,Im z0,Im z1,Im z2,Im z3,Im z4,Im z5,Im z6,Im z7] 35)) w2.heap.size w3.heap.size w4.heap.size e1 e2 e3 n c1 c2 c3 sa z0 z1 z2 z3 z4 z5 z6 z7 nK):=by
  have L1:=sH.out;have L2:=HA2.out.lt;have L3:=HB3.out;have L4:=HB4.out;have WR:(w2.alloc (.cells #[.int .u8 sa,.slice e1 n c1,Im z0,Im z1,Im z2,Im z3,Im z4,Im z5,Im z6,Im z7] 35)).heap.size=w2.heap.size+1:=eY ..;have WS:(w3.alloc (.cells #[.int .u8 sa,.slice e2 n c2,Im z0,Im z1,Im z2,Im z3,Im z4,Im z5,Im z6,Im z7] 35)).heap.size=w3.heap.size+1:=eY ..;have g3:=L3.size;have g4:=L4.size;have u2:Below w2.heap.size w2 (w2.alloc (.cells #[.int .u8 sa,.slice e1 n c1,Im z0,Im z1,Im z2,Im z3,Im z4,Im z5,Im z6,Im z7] 35)):=Below.wY (ah _ _ none);have u3:Below w3.heap.size w3 (w3.alloc (.cells #[.int .u8 sa,.slice e2 n c2,Im z0,Im z1,Im z2,Im z3,Im z4,Im z5,Im z6,Im z7] 35)):=Below.wY (ah _ _ none);have t3:Below w2.heap.size w2 w3:=u2.trans (L3.mono (by omega));have t4:Below w3.heap.size w3 w4:=u3.trans (L4.mono (by omega));have A3:w3.heap[w2.heap.size]? =some (.cells #[.int .u8 sa,.slice e1 n c1,Im z0,Im z1,Im z2,Im z3,Im z4,Im z5,Im z6,Im z7] 35):=(L3.block _ (by omega)).trans (aY w2 _);have A4:w4.heap[w2.heap.size]? =some (.cells #[.int .u8 sa,.slice e1 n c1,Im z0,Im z1,Im z2,Im z3,Im z4,Im z5,Im z6,Im z7] 35):=(t4.block _ (by omega)).trans A3;have B4:w4.heap[w3.heap.size]? =some (.cells #[.int .u8 sa,.slice e2 n c2,Im z0,Im z1,Im z2,Im z3,Im z4,Im z5,Im z6,Im z7] 35):=(L4.block _ (by omega)).trans (aY w3 _);have Ra:=EJ (EJ (Dq KQ.out (b':=w.heap.size) (by omega)) t3) t4;have Rb:=EJ (Dq KR.out (b':=w.heap.size) (by omega)) t4
  have u4:Below w4.heap.size w4 (w4.alloc (.cells #[.int .u8 sa,.slice e3 n c3,Im z0,Im z1,Im z2,Im z3,Im z4,Im z5,Im z6,Im z7] 35)):=Below.wY (ah _ _ none);have Rc:=EJ (Dq Zj.out (b':=w.heap.size) (by omega)) u4;exact⟨(GL.out.later u4).below,(u4.block _ (by omega)).trans A4,(u4.block _ (by omega)).trans B4,aY w4 _,EJ Ra u4,EJ Rb u4,Rc⟩
 have RY:Hid (w2.heap.size<w3.heap.size/\w3.heap.size<w4.heap.size):=by
  have g3:=HB3.out.size;have g4:=HB4.out.size;have WR:(w2.alloc (.cells #[.int .u8 sa,.slice e1 n c1,Im z0,Im z1,Im z2,Im z3,Im z4,Im z5,Im z6,Im z7] 35)).heap.size=w2.heap.size+1:=eY ..;have WS:(w3.alloc (.cells #[.int .u8 sa,.slice e2 n c2,Im z0,Im z1,Im z2,Im z3,Im z4,Im z5,Im z6,Im z7] 35)).heap.size=w3.heap.size+1:=eY ..;exact⟨by omega,by omega⟩
 clear HA1 HA2 E5 GL HB3 HB4 KQ KR Zj sH n0 n1 m0 m1;obtain⟨W,HW⟩:∃W,Hid (w4.alloc (.cells #[.int .u8 sa,.slice e3 n c3,Im z0,Im z1,Im z2,Im z3,Im z4,Im z5,Im z6,Im z7] 35)=W):=⟨_,rfl⟩;have HI:Hid (GI w W w2.heap.size w3.heap.size w4.heap.size e1 e2 e3 n c1 c2 c3 sa z0 z1 z2 z3 z4 z5 z6 z7 nK):=by rw[<-HW.out];exact HI4.out
 clear HI4;go_upto_region 7 with fail;rw[HW.out];clear HW RY;obtain⟨ka0,ka1,ka2,ka3,ka4,ka5,ka6,ka7,ka8,ka9⟩:=FM HI.out.a;obtain⟨kb0,kb1,kb2,kb3,kb4,kb5,kb6,kb7,kb8,kb9⟩:=FM HI.out.b;obtain⟨kc0,kc1,kc2,kc3,kc4,kc5,kc6,kc7,kc8,kc9⟩:=FM HI.out.c;have e8:=λw=>TQ w z0 z1 z2 z3 z4 z5 z6 z7;have HI0:=jB HI.out;clear HI;go_wp2_with fail;go_loopg [14] n (λgg i wr=>∃k:Nat,k+gg=n/\i=Im k/\GI w wr w2.heap.size w3.heap.size w4.heap.size e1 e2 e3 n c1 c2 c3 sa z0 z1 z2 z3 z4 z5 z6 z7 nK)
 case atStart=>exact⟨0,by omega,rfl,HI0.out⟩
 case round=>
  obtain⟨k,hk,rfl,hI⟩:=hrel;clear HI0;have ca:wr.cell? (Ad w2.heap.size 1)=some (.slice e1 n c1):=jH hI.a;have cb:wr.cell? (Ad w3.heap.size 1)=some (.slice e2 n c2):=jH hI.b;have cc:wr.cell? (Ad w4.heap.size 1)=some (.slice e3 n c3):=jH hI.c;by_cases hlt:k<n
  .have d1:decide ((k:Int)<(n:Int))=true:=by simp;omega
   have hget:nK[k]? =some nK[k]:=by simp
   obtain⟨c2',c3'⟩:=Tc nK k _ hget;obtain⟨g1,h1,_,_,hcs1⟩:=Iu hI.ra c2';obtain⟨g2,h2,_,_,hcs2⟩:=Iu hI.rb c2';obtain⟨g3,h3,_,_,hcs3⟩:=Iu hI.rc c2';have p1:=hcs1 _ _ c2';have p2:=hcs2 _ _ c2';have p3:=hcs3 _ _ c2';have s1:=hcs1 _ _ c3';have s2:=hcs2 _ _ c3';have s3:=hcs3 _ _ c3';generalize nK[k].1=ro at *;generalize nK[k].2=sq at *;have HI2:=jB hI;have i3:(0:Int)<=(k:Int):=by omega
   have j3:(k:Int)<(n:Int):=by omega
   obtain⟨g',hg'⟩:∃g',gk=g'+1:=⟨gk-1,by omega⟩;rw[h1]at ca;rw[h2]at cb;rw[h3]at cc;clear hI hget hcs1 hcs2 hcs3 h1 h2 h3 c2' c3';go_wp2_with fail;go_quiet (fail);go_wp2_with fail;go_roundg g'
   case measure=>omega
   case rel=>exact⟨k+1,by omega,by go_num,HI2.out.grow (lH _ _)⟩
  .have d1:decide ((k:Int)<(n:Int))=false:=by simp;omega
   have st:wr.cell? (Ad w2.heap.size 0)=some (.int .u8 sa):=jH hI.a;have HF:Hid (Below w.heap.size w wr):=hI.below;clear hI;rcases Sr.out with e|e|e
   .subst e;go_wp2_with fail;go_ret;exact⟨rfl,HF.out⟩
   .subst e;go_wp2_with fail;go_ret;exact⟨rfl,HF.out⟩
   .subst e;go_wp2_with fail;go_ret;exact⟨rfl,HF.out⟩
end
end
end Go.Proofs.YthllhabjfchgiaaGreatDoor
