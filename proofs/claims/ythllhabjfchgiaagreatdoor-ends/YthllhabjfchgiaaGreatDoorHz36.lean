import Derived.Test.YthllhabjfchgiaaGreatDoorHz34
set_option maxRecDepth 100000
set_option maxHeartbeats 8000000
namespace Go.Proofs.YthllhabjfchgiaaGreatDoor
section
open Hx
section
variable {s:aO}
structure Ec(s:aO)(r:Lr):Prop where
 c1:1<=r.cO
 c8:r.cO<=8
 out:r.out=r.aQ.length
 aQ:∀q∈r.aQ,q∈s.aP
 aT:∀q∈r.aT,q<s.acc/\q∉s.aG
 aX:∀n∈r.aX,n<=s.bQ
structure Sn(s:aO):Prop where
 acc:s.acc=s.all.length
 ak:s.dA<=s.bQ
 dl:s.bQ<=s.acc
 perm:(s.aG++s.aP).Perm (List.range' s.dA (s.acc-s.dA))
 fr:∀q∈s.aG,s.bQ<=q
 f16:s.aG.length<=16
 vK:s.aJ.length<=16
 aJ:∀q∈s.aJ,q∈s.aP
 kept:s.kept.length=32
 ahead:∀j,j<32->s.kept.getD ((s.bQ+j)%32) false=true->s.bQ+j<s.acc/\s.bQ+j∉s.aG
 aK:∀(i:Nat)(r:Lr),s.ah[i]? =some r->Ec s r
 turn:s.turn<s.ah.length
 quiet: -1<=s.quiet/\s.quiet<=7
theorem Sn.mem(h:Sn s){q:Nat}:(q∈s.aG\/q∈s.aP)↔(s.dA<=q/\q<s.acc):=by
 rw[<-List.mem_append,h.perm.mem_iff,List.mem_range'_1];have:=h.ak;have:=h.dl;omega
theorem Sn.nodup(h:Sn s):(s.aG++s.aP).Nodup:=h.perm.nodup_iff.2 (List.nodup_range')
theorem Sn.len(h:Sn s):s.aG.length+s.aP.length=s.acc-s.dA:=by
 have:=h.perm.length_eq;simpa using this
theorem ajr{l:List Nat}{q:Nat}(h:q∉l):mV l (q:Int)=l:=by
 unfold mV;refine List.filter_eq_self.2 fun x hx=>?_;have:x≠q:=fun e=>h (e▸hx);simp;omega
theorem I5{l:List Nat}{q x:Nat}:x∈mV l (q:Int)↔x∈l/\x≠q:=by
 unfold mV;rw[List.mem_filter];constructor
 .rintro⟨h1,h2⟩;refine⟨h1,?_⟩;simp at h2;omega
 .rintro⟨h1,h2⟩;refine⟨h1,?_⟩;simp;omega
theorem YI(l:List Nat)(x:Int):(mV l x).length<=l.length:=List.length_filter_le _ _
theorem ajs{l:List Nat}{q:Nat}(hn:l.Nodup)(h:q∈l):(mV l (q:Int)++[q]).Perm l:=by
 have e:mV l (q:Int)=l.erase q:=by
  rw[hn.erase_eq_filter];unfold mV;refine List.filter_congr fun x _=>?_;by_cases hx:x=q
  .subst hx;simp
  .show(!((x:Int)==(q:Int)))=(x !=q);rw[beq_eq_false_iff_ne.2 (show(x:Int)≠(q:Int) by omega)];simp[hx]
 rw[e];exact(List.perm_append_singleton _ _).trans (List.perm_cons_erase h).symm
def over(l:List Lr):Nat:=(l.map fun r=>r.out-r.cO).sum
theorem Iw:∀(l:List Lr)(i:Nat)(r r':Lr),l[i]? =some r->over (l.set i r')+(r.out-r.cO)=over l+(r'.out-r'.cO)
 |[],i,r,r',h=>by simp at h
 |x::l,0,r,r',h=>by
  have:x=r:=by simpa using h
  subst this;simp[over];omega
 |x::l,i+1,r,r',h=>by
  have:=Iw l i r r' (by simpa using h);simp only[over,List.set_cons_succ,List.map_cons,List.sum_cons]at this⊢;omega
theorem Sn.write(h:Sn s)(size:Int):Sn (s.write size).1/\over (s.write size).1.ah=over s.ah/\(s.write size).1.quiet=s.quiet:=by
 unfold aO.write;split
 .exact⟨h,rfl,rfl⟩
 .split
  .exact⟨h,rfl,rfl⟩
  .rename_i hf;have:=h.ak;have:=h.dl;refine⟨⟨?_,h.ak,?_,?_,fun q hq=>?_,?_,h.vK,h.aJ,h.kept,fun j hj hk=>?_,fun i r hr=>?_,h.turn,h.quiet⟩,rfl,rfl⟩
   .show s.acc+1=(s.all++[_]).length;rw[List.length_append,h.acc];rfl
   .show s.bQ<=s.acc+1;omega
   .show((s.aG++[s.acc])++s.aP).Perm (List.range' s.dA (s.acc+1-s.dA));have e1:s.acc+1-s.dA=(s.acc-s.dA)+1:=by omega
    rw[e1,List.range'_concat,Nat.one_mul,show s.dA+(s.acc-s.dA)=s.acc by omega];rw[List.append_assoc];refine(List.Perm.append_left _ List.perm_append_comm).trans ?_;rw[<-List.append_assoc];exact h.perm.append_right _
   .rcases List.mem_append.1 hq with hq|hq
    .exact h.fr q hq
    .rw[List.mem_singleton.1 hq];exact h.dl
   .show(s.aG++[s.acc]).length<=16;have:=h.f16;rw[List.length_append,List.length_singleton];omega
   .obtain⟨a1,a2⟩:=h.ahead j hj hk;refine⟨by show s.bQ+j<s.acc+1;omega,fun hm=>?_⟩;rcases List.mem_append.1 hm with hm|hm
    .exact a2 hm
    .have:s.bQ+j=s.acc:=List.mem_singleton.1 hm;omega
   .obtain⟨r1,r2,r3,r4,r5,r6⟩:=h.aK i r hr;refine⟨r1,r2,r3,r4,fun q hq=>⟨?_,fun hm=>?_⟩,r6⟩
    .have:=(r5 q hq).1;show q<s.acc+1;omega
    .rcases List.mem_append.1 hm with hm|hm
     .exact(r5 q hq).2 hm
     .have:=(r5 q hq).1;have:q=s.acc:=List.mem_singleton.1 hm;omega
theorem N8{l:List Nat}{q:Nat}:(lH l (q:Int)).isSome=true↔q∈l:=by
 unfold lH;rw[List.find?_isSome];constructor
 .rintro⟨x,hx,he⟩;have:x=q:=by simp at he;omega
  exact this▸hx
 .exact fun h=>⟨q,h,by simp⟩
theorem Sn.send(h:Sn s){q i:Nat}{r:Lr}(hi:s.ah[i]? =some r)(hq:q∈s.aG\/q∈s.aP):Sn (s.send q i)/\over (s.send q i).ah+(r.out-r.cO)=over s.ah+(r.out+1-r.cO)/\(s.send q i).quiet=s.quiet:=by
 have hil:=(List.getElem?_eq_some_iff.1 hi).1;have hg:s.ah.getD i lT=r:=by rw[List.getD_eq_getElem?_getD,hi];rfl
 have hnd:=h.nodup;have hun:∀x,x∈(s.send q i).aP↔x∈s.aP\/x=q:=fun x=>by
  show x∈(if (lH s.aG (q:Int)).isSome then s.aP++[q]else s.aP)↔_;split
  .rw[List.mem_append,List.mem_singleton]
  .rename_i hn;have hqu:q∈s.aP:=hq.resolve_left fun hf=>hn (N8.2 hf);exact⟨Or.inl,fun hx=>hx.elim id fun e=>e▸hqu⟩
 have hqa:s.dA<=q/\q<s.acc:=h.mem.1 hq;refine⟨⟨?_,h.ak,h.dl,?_,fun x hx=>h.fr x (I5.1 hx).1,?_,?_,fun x hx=>(hun x).2 (Or.inl (h.aJ x (I5.1 hx).1)),h.kept,fun j hj hk=>?_,fun k r' hr'=>?_,?_,h.quiet⟩,?_,rfl⟩
 .show s.acc=(s.all.set q _).length;rw[List.length_set];exact h.acc
 .show(mV s.aG (q:Int)++(if (lH s.aG (q:Int)).isSome then s.aP++[q]else s.aP)).Perm _;refine List.Perm.trans ?_ h.perm;split
  .rename_i hs;have hm:=N8.1 hs;have hp:=ajs (List.nodup_append.1 hnd).1 hm;refine List.Perm.trans ?_ (hp.append_right s.aP);rw[List.append_assoc];exact List.Perm.append_left _ List.perm_append_comm
  .rename_i hn;rw[ajr fun hf=>hn (N8.2 hf)]
 .exact Nat.le_trans (YI _ _) h.f16
 .exact Nat.le_trans (YI _ _) h.vK
 .obtain⟨a1,a2⟩:=h.ahead j hj hk;exact⟨a1,fun hm=>a2 (I5.1 hm).1⟩
 .have hr2:(s.ah.set i ((s.ah.getD i lT).send q))[k]? =some r':=hr';rw[hg]at hr2;have nH:∀x,Ec s x->Ec (s.send q i) x:=fun x hx=>⟨hx.c1,hx.c8,hx.out,fun y hy=>(hun y).2 (Or.inl (hx.aQ y hy)),fun y hy=>⟨(hx.aT y hy).1,fun hm=>(hx.aT y hy).2 (I5.1 hm).1⟩,hx.aX⟩;by_cases hk:k=i
  .subst hk;have e:=wH hr2;subst e;obtain⟨r1,r2,r3,r4,r5,r6⟩:=nH r (h.aK k r hi);refine⟨r1,r2,?_,fun y hy=>?_,fun y hy=>?_,r6⟩
   .show r.out+1=(r.aQ++[q]).length;rw[List.length_append,r3];rfl
   .rcases List.mem_append.1 hy with hy|hy
    .exact r4 y hy
    .exact(hun y).2 (Or.inr (List.mem_singleton.1 hy))
   .rcases List.mem_append.1 hy with hy|hy
    .exact r5 y hy
    .have e:=List.mem_singleton.1 hy;rw[e];exact⟨hqa.2,fun hm=>(I5.1 hm).2 rfl⟩
  .exact nH r' (h.aK k r' (wG hr2 hk))
 .show s.turn<(s.ah.set i _).length;rw[List.length_set];exact h.turn
 .have e:(s.send q i).ah=s.ah.set i (r.send q):=by show s.ah.set i _=_;rw[hg]
  rw[e];exact Iw s.ah i r (r.send q) hi
theorem Sn.act(h:Sn s)(id seq:Int):Sn (s.act id seq)/\over (s.act id seq).ah<=over s.ah/\(s.act id seq).quiet=s.quiet:=by
 have hw:Sn {s with dN:=s.dN+1}:=⟨h.acc,h.ak,h.dl,h.perm,h.fr,h.f16,h.vK,h.aJ,h.kept,h.ahead,fun i r hr=>⟨(h.aK i r hr).c1,(h.aK i r hr).c8,(h.aK i r hr).out,(h.aK i r hr).aQ,(h.aK i r hr).aT,(h.aK i r hr).aX⟩,h.turn,h.quiet⟩;unfold aO.act;split
 .rename_i i q hi hq;split
  .rename_i r hr;split
   .exact⟨hw,Nat.le_refl _,rfl⟩
   .rename_i hc;have hqm:q∈s.aG\/q∈s.aP:=by
     unfold aO.waiting at hq;split at hq
     .rename_i q' hq';cases hq;exact Or.inl (GH hq').1
     .exact Or.inr (h.aJ q (GH hq).1)
    obtain⟨a1,a2,a3⟩:=h.send hr hqm;exact⟨a1,by omega,a3⟩
  .exact⟨h,Nat.le_refl _,rfl⟩
 .exact⟨hw,Nat.le_refl _,rfl⟩
theorem Sn.mD(h:Sn s):Sn s.mD/\over s.mD.ah<=over s.ah+1/\s.mD.quiet=s.quiet:=by
 unfold aO.mD;split
 .exact⟨h,by omega,rfl⟩
 .rename_i q hq;have hqm:q∈s.aG\/q∈s.aP:=by
   rcases Hz (s.aP++s.aG) none q hq with k|k
   .cases k
   .exact(List.mem_append.1 k).symm
  have ht:=h.turn;have hi:s.ah[s.turn]? =some s.ah[s.turn]:=List.getElem?_eq_getElem ht;obtain⟨a1,a2,a3⟩:=h.send hi hqm;have hl:(s.send q s.turn).ah.length=s.ah.length:=List.length_set;refine⟨⟨a1.acc,a1.ak,a1.dl,a1.perm,a1.fr,a1.f16,a1.vK,a1.aJ,a1.kept,a1.ahead,fun i r hr=>⟨(a1.aK i r hr).c1,(a1.aK i r hr).c8,(a1.aK i r hr).out,(a1.aK i r hr).aQ,(a1.aK i r hr).aT,(a1.aK i r hr).aX⟩,?_,a1.quiet⟩,?_,a3⟩
  .show(s.turn+1)%s.ah.length<(s.send q s.turn).ah.length;rw[hl];exact Nat.mod_lt _ (by have:=h.turn;omega)
  .show over (s.send q s.turn).ah<=_;omega
theorem J6{l:List Nat}{n x:Nat}:x∈eY l n↔x∈l/\n<=x:=by
 unfold eY;rw[List.mem_filter];constructor
 .rintro⟨h1,h2⟩;refine⟨h1,?_⟩;simp at h2;omega
 .rintro⟨h1,h2⟩;refine⟨h1,?_⟩;simp;omega
theorem Oa(l:List Nat)(n:Nat):(eY l n).length<=l.length:=List.length_filter_le _ _
theorem abA(a m n:Nat)(h1:a<=n)(h2:n<=a+m):eY (List.range' a m) n=List.range' n (a+m-n):=by
 have e:List.range' a m=List.range' a (n-a)++List.range' n (a+m-n):=by
  have:=List.range'_append_1 (s:=a) (m:=n-a) (n:=a+m-n);rw[show a+(n-a)=n by omega,show n-a+(a+m-n)=m by omega]at this;exact this.symm
 rw[e];unfold eY;rw[List.filter_append,List.filter_eq_nil_iff.2 (fun x hx=>by rw[List.mem_range'_1]at hx;simp;omega),List.filter_eq_self.2 (fun x hx=>by rw[List.mem_range'_1]at hx;simp;omega)]
 rfl
theorem WI(n:Nat):∀(l:List Lr),(∀r∈l,r.out=r.aQ.length)->over (l.map fun r=>r.fD n)<=over l
 |[],_=>Nat.le_refl _
 |r::l,h=>by
  have h1:=WI n l fun x hx=>h x (List.mem_cons_of_mem _ hx);have h2:=h r List.mem_cons_self;have h3:=Oa r.aQ n;simp only[over,List.map_cons,List.sum_cons]at h1⊢;have:(r.fD n).out=(eY r.aQ n).length:=rfl;have:(r.fD n).cO=r.cO:=rfl;omega
theorem Sn.fD(h:Sn s){n:Nat}(h1:s.dA<=n)(h2:n<=s.bQ):Sn (s.fD n)/\over (s.fD n).ah<=over s.ah:=by
 have hd:=h.dl;refine⟨⟨h.acc,h2,h.dl,?_,h.fr,h.f16,Nat.le_trans (Oa _ _) h.vK,fun q hq=>?_,h.kept,h.ahead,fun i r hr=>?_,?_,by show(-1:Int)<= -1/\(-1:Int)<=7;omega⟩,WI n s.ah fun r hr=>?_⟩
 .show(s.aG++eY s.aP n).Perm (List.range' n (s.acc-n));have e1:eY (s.aG++s.aP) n=s.aG++eY s.aP n:=by
   unfold eY;rw[List.filter_append,List.filter_eq_self.2 (fun x hx=>by have:=h.fr x hx;simp;omega)]
  have e2:=abA s.dA (s.acc-s.dA) n h1 (by omega);rw[show s.dA+(s.acc-s.dA)-n=s.acc-n by omega]at e2;rw[<-e1,<-e2];exact h.perm.filter _
 .obtain⟨a1,a2⟩:=J6.1 hq;exact J6.2 ⟨h.aJ q a1,a2⟩
 .have hr2:(s.ah.map fun r=>r.fD n)[i]? =some r:=hr;rw[List.getElem?_map]at hr2;cases hx:s.ah[i]?with
  |none=>rw[hx]at hr2;cases hr2
  |some x=>
   rw[hx]at hr2;cases hr2;obtain⟨r1,r2,r3,r4,r5,r6⟩:=h.aK i x hx;exact⟨r1,r2,rfl,fun q hq=>by obtain⟨a1,a2⟩:=J6.1 hq;exact J6.2 ⟨r4 q a1,a2⟩,r5,r6⟩
 .show s.turn<(s.ah.map _).length;rw[List.length_map];exact h.turn
 .obtain⟨k,hk,he⟩:=List.mem_iff_getElem.1 hr;exact(h.aK k r (by rw[<-he];simp)).out
theorem Sn.DL(h:Sn s){i:Nat}{r':Lr}(hr:Ec s r'):Sn {s with ah:=s.ah.set i r'}:=by
 refine⟨h.acc,h.ak,h.dl,h.perm,h.fr,h.f16,h.vK,h.aJ,h.kept,h.ahead,fun k x hx=>?_,?_,h.quiet⟩
 .by_cases hk:k=i
  .subst hk;have:=wH hx;subst this;exact⟨hr.c1,hr.c8,hr.out,hr.aQ,hr.aT,hr.aX⟩
  .have:=h.aK k x (wG hx hk);exact⟨this.c1,this.c8,this.out,this.aQ,this.aT,this.aX⟩
 .show s.turn<(s.ah.set i _).length;rw[List.length_set];exact h.turn
theorem Sn.lZ(h:Sn s)(aK k:Int):Sn (s.lZ aK k).1/\over (s.lZ aK k).1.ah<=over s.ah/\(s.lZ aK k).1.quiet.toNat<=s.quiet.toNat:=by
 unfold aO.lZ;split
 .exact⟨h,Nat.le_refl _,Nat.le_refl _⟩
 .rename_i i hi;split
  .exact⟨h,Nat.le_refl _,Nat.le_refl _⟩
  .rename_i r hr;split
   .exact⟨h,Nat.le_refl _,Nat.le_refl _⟩
   .split
    .rename_i hk hn;generalize hq:r.aX.getD k.toNat 0=n at *;have hkl:k.toNat<r.aX.length:=by omega
     have hnm:n∈r.aX:=by rw[<-hq,List.getD_eq_getElem?_getD,List.getElem?_eq_getElem hkl];exact List.getElem_mem hkl
     obtain⟨a1,a2⟩:=h.fD (n:=n) (by omega) ((h.aK i r hr).aX n hnm);have hgi:(s.fD n).ah[i]? =some (r.fD n):=by show(s.ah.map _)[i]? =_;rw[List.getElem?_map,hr];rfl
     have b:=a1.aK i _ hgi;have ho:=Iw (s.fD n).ah i (r.fD n) (r.fD n).grow hgi;have c1:=b.c1;have c8:=b.c8;have e1:(r.fD n).grow.cO=min ((r.fD n).cO+1) 8:=rfl;have e2:(r.fD n).grow.out=(r.fD n).out:=rfl;refine⟨a1.DL ⟨by omega,by omega,b.out,b.aQ,b.aT,b.aX⟩,?_,?_⟩
     .show over ((s.fD n).ah.set i (r.fD n).grow)<=_;omega
     .show((-1:Int)).toNat<=_;simp
    .exact⟨h,Nat.le_refl _,Nat.le_refl _⟩
theorem Sn.fU(h:Sn s)(aK:Int):Sn (s.fU aK).1/\over (s.fU aK).1.ah<=over s.ah/\(s.fU aK).1.quiet=s.quiet:=by
 unfold Hx.aO.fU;split
 .exact⟨h,Nat.le_refl _,rfl⟩
 .rename_i i hi;split
  .exact⟨h,Nat.le_refl _,rfl⟩
  .rename_i r hr;have b:=h.aK i r hr;have c1:=b.c1;have c8:=b.c8;have ho:=Iw s.ah i r r.fU hr;have e1:r.fU.cO=max (r.cO/2) 1:=rfl;have e2:r.fU.out=0:=rfl;have a:=h.DL (i:=i) (r':=r.fU) ⟨by omega,by omega,rfl,fun q hq=>absurd hq List.not_mem_nil,b.aT,b.aX⟩;have hq:=Qe (oZ r.aQ) s.aJ;have h16:=h.vK;refine⟨⟨a.acc,a.ak,a.dl,a.perm,a.fr,a.f16,?_,fun q hq=>?_,a.kept,a.ahead,fun k x hx=>?_,a.turn,a.quiet⟩,?_,rfl⟩
   .show(oW s.aJ (oZ r.aQ)).length<=16;omega
   .rcases Xj _ _ q hq with hq|hq
    .exact h.aJ q hq
    .exact b.aQ q (List.mem_mergeSort.1 hq)
   .have:=a.aK k x hx;exact⟨this.c1,this.c8,this.out,this.aQ,this.aT,this.aX⟩
   .show over (s.ah.set i r.fU)<=_;omega
theorem Ug(k:List Bool)(i x:Nat)(b:Bool)(hi:i<k.length):(k.set i b).getD x false=if x=i then b else k.getD x false:=by
 rw[List.getD_eq_getElem?_getD,List.getD_eq_getElem?_getD];by_cases h:x=i
 .subst h;rw[if_pos rfl,List.getElem?_set_self hi];rfl
 .rw[if_neg h,List.getElem?_set_ne (fun e=>h e.symm)]
structure Ee(s:aO)(d:Nat)(k:List Bool):Prop where
 d0:s.bQ<=d
 d1:d<=s.acc
 fr:∀q∈s.aG,d<=q
 len:k.length=32
 ahead:∀j,j<32->k.getD ((d+j)%32) false=true->d+j<s.acc/\d+j∉s.aG
theorem Ee.loop:∀(f d:Nat)(k:List Bool),Ee s d k->Ee s (qj f d k).1 (qj f d k).2
 |0,d,k,h=>h
 |f+1,d,k,h=>by
  rw[qj];split
  .rename_i hk;have a:=h.ahead 0 (by omega) (by simpa using hk);have hl:=h.len;have d0:=h.d0;refine Ee.loop f (d+1) _ ⟨by omega,by have:=a.1;omega,fun q hq=>?_,by rw[List.length_set];exact h.len,fun j hj he=>?_⟩
   .have:=h.fr q hq;have:q≠d:=fun e=>a.2 (by simpa [e]using hq);omega
   .rw[Ug _ _ _ _ (by omega)]at he;split at he
    .cases he
    .rename_i hne;have aj1:j≠31:=fun e=>hne (by omega);have:=h.ahead (j+1) (by omega) (by rw[show d+(j+1)=d+1+j by omega];exact he);rw[show d+(j+1)=d+1+j by omega]at this;exact this
  .exact h
theorem Sn.lu(h:Sn s)(aK k:Int):Sn (s.lu aK k).1/\over (s.lu aK k).1.ah=over s.ah/\(s.lu aK k).1.quiet=s.quiet:=by
 unfold aO.lu;split
 .exact⟨h,rfl,rfl⟩
 .rename_i i hi;split
  .exact⟨h,rfl,rfl⟩
  .rename_i r hr;split
   .exact⟨h,rfl,rfl⟩
   .rename_i hk;have b:=h.aK i r hr;have hkl:k.toNat<r.aT.length:=by omega
    have hqm:r.aT.getD k.toNat 0∈r.aT:=by rw[List.getD_eq_getElem?_getD,List.getElem?_eq_getElem hkl];exact List.getElem_mem hkl
    generalize r.aT.getD k.toNat 0=q at *;obtain⟨q1,q2⟩:=b.aT q hqm;have h32:=h.kept;have t0:Ee s s.bQ (if s.bQ<=q/\q<s.bQ+32 then s.kept.set (q%32) true else s.kept):=by
     split
     .rename_i hc;refine⟨Nat.le_refl _,h.dl,h.fr,by rw[List.length_set];exact h.kept,fun j hj he=>?_⟩;rw[Ug _ _ _ _ (by omega)]at he;split at he
      .rename_i e;have:s.bQ+j=q:=by omega
       rw[this];exact⟨q1,q2⟩
      .exact h.ahead j hj he
     .exact⟨Nat.le_refl _,h.dl,h.fr,h.kept,h.ahead⟩
    have t1:=Ee.loop 33 _ _ t0;have et:Hx.takes s.bQ s.kept q=qj 33 s.bQ (if s.bQ<=q/\q<s.bQ+32 then s.kept.set (q%32) true else s.kept):=rfl;rw[<-et]at t1;generalize Hx.takes s.bQ s.kept q=t at *;have ho:=Iw s.ah i r {r with aX:=r.aX++[t.1]} hr;have d0:=t1.d0;have hak:=h.ak;have up:∀x,Ec s x->Ec {s with bQ:=t.1,kept:=t.2,ah:=s.ah.set i {r with aX:=r.aX++[t.1]}} x:=fun x hx=>⟨hx.c1,hx.c8,hx.out,hx.aQ,hx.aT,fun n hn=>Nat.le_trans (hx.aX n hn) d0⟩;refine⟨⟨h.acc,Nat.le_trans h.ak d0,t1.d1,h.perm,t1.fr,h.f16,h.vK,h.aJ,t1.len,t1.ahead,fun j x hx=>?_,?_,h.quiet⟩,?_,rfl⟩
    .by_cases hj:j=i
     .subst hj;have e:=wH hx;subst e;have u:=up r b;refine⟨u.c1,u.c8,u.out,u.aQ,u.aT,fun n hn=>?_⟩;rcases List.mem_append.1 hn with hn|hn
      .exact u.aX n hn
      .rw[List.mem_singleton.1 hn];exact Nat.le_refl _
     .exact up x (h.aK j x (wG hx hj))
    .show s.turn<(s.ah.set i _).length;rw[List.length_set];exact h.turn
    .show over (s.ah.set i _)=_;have:({r with aX:=r.aX++[t.1]}:Lr).out=r.out:=rfl;have:({r with aX:=r.aX++[t.1]}:Lr).cO=r.cO:=rfl;omega
theorem Sn.fA(h:Sn s):Sn s.fA.1/\s.fA.1.ah=s.ah/\(if s.fA.2 then s.fA.1.quiet.toNat+8<=s.quiet.toNat+1 else s.fA.1.quiet.toNat<=s.quiet.toNat+1):=by
 have hq:=h.quiet;have key:∀x:Int,-1<=x->x<=7->Sn {s with quiet:=x}:=fun x h1 h2=>⟨h.acc,h.ak,h.dl,h.perm,h.fr,h.f16,h.vK,h.aJ,h.kept,h.ahead,fun i r hr=>⟨(h.aK i r hr).c1,(h.aK i r hr).c8,(h.aK i r hr).out,(h.aK i r hr).aQ,(h.aK i r hr).aT,(h.aK i r hr).aX⟩,h.turn,h1,h2⟩;unfold Hx.aO.fA;split
 .refine⟨key _ (by omega) (by omega),rfl,?_⟩;simp only[Bool.false_eq_true,if_false];omega
 .refine⟨key 0 (by omega) (by omega),rfl,?_⟩;simp only[if_true];show(0:Int).toNat+8<=_;omega
def Hx.aO.aY(s:aO)(l:List (Int×Int)):aO:=l.foldl (fun s a=>s.act a.1 a.2) s
def Hx.aO.watch(s:aO):aO:=if s.fA.2 then s.fA.1.mD else s.fA.1
def Hx.aO.bG(s:aO)(x0 x1 x2 x3 x4 x5 x6 x7:Int):aO:={s with r0:=x0,r1:=x1,r2:=x2,r3:=x3,r4:=x4,r5:=x5,r6:=x6,r7:=x7}
theorem Sn.aY:∀(l:List (Int×Int)){s:aO},Sn s->Sn (s.aY l)/\over (s.aY l).ah<=over s.ah/\(s.aY l).quiet=s.quiet
 |[],s,h=>⟨h,Nat.le_refl _,rfl⟩
 |a::l,s,h=>by
  obtain⟨h1,h2,h3⟩:=h.act a.1 a.2;obtain⟨k1,k2,k3⟩:=Sn.aY l h1;exact⟨k1,Nat.le_trans k2 h2,k3.trans h3⟩
theorem Sn.bG(h:Sn s)(x0 x1 x2 x3 x4 x5 x6 x7:Int):Sn (s.bG x0 x1 x2 x3 x4 x5 x6 x7):=
 ⟨h.acc,h.ak,h.dl,h.perm,h.fr,h.f16,h.vK,h.aJ,h.kept,h.ahead,fun i r hr=>⟨(h.aK i r hr).c1,(h.aK i r hr).c8,(h.aK i r hr).out,(h.aK i r hr).aQ,(h.aK i r hr).aT,(h.aK i r hr).aX⟩,h.turn,h.quiet⟩
theorem Sn.watch(h:Sn s){p t:Nat}(ho:over s.ah<=p)(hp:8 * p+s.quiet.toNat<=t):Sn s.watch/\∃p',over s.watch.ah<=p'/\8 * p'+s.watch.quiet.toNat<=t+1:=by
 obtain⟨d1,d2,d3⟩:=h.fA;unfold Hx.aO.watch;cases hd:s.fA.2 with
 |false=>
  rw[hd]at d3;simp only[Bool.false_eq_true,if_false]at d3⊢;exact⟨d1,p,by rw[d2];exact ho,by omega⟩
 |true=>
  rw[hd]at d3;simp only[if_true]at d3⊢;obtain⟨k1,k2,k3⟩:=d1.mD;exact⟨k1,p+1,by rw[d2]at k2;omega,by rw[k3];omega⟩
theorem Sn.sound(h:Sn s){p t:Nat}(ho:over s.ah<=p)(hp:8 * p+s.quiet.toNat<=t):s.bQ<=s.acc/\s.dA<=s.bQ/\s.aG.length<=16/\s.aJ.length<=16/\s.aG.length+s.aP.length=s.acc-s.dA/\(∀q∈s.aG++s.aP,s.dA<=q/\q<s.acc)/\(s.aG++s.aP).Nodup/\(∀r∈s.ah,1<=r.cO/\r.cO<=8)/\over s.ah<=t/8:=
 ⟨h.dl,h.ak,h.f16,h.vK,h.len,fun q hq=>h.mem.1 (List.mem_append.1 hq),h.nodup,fun r hr=>by
   obtain⟨k,hk,he⟩:=List.mem_iff_getElem.1 hr;have:=h.aK k r (by rw[<-he];simp);exact⟨this.c1,this.c8⟩,by omega⟩
theorem abP:∀(l:List Nat)(f:Option Nat)(m:Nat),mO f l=some m->(∀x,f=some x->m<=x)/\∀q∈l,m<=q
 |[],f,m,h=>⟨fun x hx=>by have:f=some m:=h;rw[this]at hx;cases hx;exact Nat.le_refl _,fun q hq=>absurd hq List.not_mem_nil⟩
 |y::l,f,m,h=>by
  have h':mO (H9 f y) l=some m:=h;obtain⟨a1,a2⟩:=abP l _ m h';cases f with
  |none=>
   have:=a1 y rfl;exact⟨fun x hx=>(by cases hx),fun q hq=>by
    rcases List.mem_cons.1 hq with e|e
    .rw[e];exact this
    .exact a2 q e⟩
  |some x=>
   by_cases hyx:y<x
   .have e:H9 (some x) y=some y:=if_pos hyx;have:=a1 y e;refine⟨fun z hz=>by cases hz;omega,fun q hq=>?_⟩;rcases List.mem_cons.1 hq with e2|e2
    .rw[e2];exact this
    .exact a2 q e2
   .have e:H9 (some x) y=some x:=if_neg hyx;have:=a1 x e;refine⟨fun z hz=>by cases hz;omega,fun q hq=>?_⟩;rcases List.mem_cons.1 hq with e2|e2
    .rw[e2];omega
    .exact a2 q e2
theorem Sn.least(h:Sn s)(hlt:s.dA<s.acc):KQ (s.aP++s.aG)=some s.dA:=by
 have hm:s.dA∈s.aP++s.aG:=List.mem_append.2 ((h.mem (q:=s.dA)).2 ⟨Nat.le_refl _,hlt⟩).symm;cases hq:KQ (s.aP++s.aG)with
 |none=>
  have:∀(l:List Nat)(f:Option Nat),mO f l=none->l=[]:=fun l=>by
   induction l with
   |nil=>exact fun _ _=>rfl
   |cons y l ih=>
    intro f hf;have hf':mO (H9 f y) l=none:=hf;have hl:=ih _ hf';rw[hl]at hf';have:H9 f y=none:=hf';cases f with
    |none=>cases this
    |some x=>
     exfalso
     unfold H9 at this;simp only at this;split at this<;>cases this
  rw[this _ none hq]at hm;exact absurd hm List.not_mem_nil
 |some m=>
  have h1:=(abP _ none m hq).2 _ hm;have h2:m∈s.aP++s.aG:=by
   rcases Hz _ none m hq with k|k
   .cases k
   .exact k
  have:=(h.mem.1 (List.mem_append.1 h2).symm).1;rw[show m=s.dA by omega]
end
section
variable {s s' s2:aO}
theorem Yn:∀(f d:Nat)(k:List Bool),d<=(qj f d k).1
 |0,d,k=>Nat.le_refl _
 |f+1,d,k=>by
  rw[qj];split
  .exact Nat.le_trans (Nat.le_succ _) (Yn f _ _)
  .exact Nat.le_refl _
theorem aiO(d:Nat)(k:List Bool)(q:Nat):d<=(Hx.takes d k q).1:=Yn _ _ _
theorem ajS{d q:Nat}{k:List Bool}(hk:k.length=32)(hq:q<=d):q<(Hx.takes d k q).1:=by
 rcases Nat.lt_or_ge q d with h|h
 .exact Nat.lt_of_lt_of_le h (aiO d k q)
 .have e:q=d:=by omega
  subst e;unfold Hx.takes;rw[if_pos (by omega),QF (by rw[Ug _ _ _ _ (by omega),if_pos rfl])];exact Yn _ _ _
structure DW(s s':aO):Prop where
 dA:s'.dA=s.dA
 acc:s'.acc=s.acc
 quiet:s'.quiet=s.quiet
 bQ:s.bQ<=s'.bQ
 len:s'.ah.length=s.ah.length
 aK:∀(i:Nat)(r:Lr),s.ah[i]? =some r->∃r',s'.ah[i]? =some r'/\r'.aT=r.aT/\∃x,r'.aX=r.aX++x
theorem DW.refl(s:aO):DW s s:=⟨rfl,rfl,rfl,Nat.le_refl _,rfl,fun _ r hr=>⟨r,hr,rfl,[],by simp⟩⟩
theorem DW.trans(h:DW s s')(k:DW s' s2):DW s s2:=by
 refine⟨k.dA.trans h.dA,k.acc.trans h.acc,k.quiet.trans h.quiet,Nat.le_trans h.bQ k.bQ,k.len.trans h.len,fun i r hr=>?_⟩;obtain⟨r1,a1,a2,x,a3⟩:=h.aK i r hr;obtain⟨r2,b1,b2,y,b3⟩:=k.aK i r1 a1;exact⟨r2,b1,b2.trans a2,x++y,by rw[b3,a3,List.append_assoc]⟩
theorem SA(s:aO)(aK k:Int):DW s (s.lu aK k).1:=by
 unfold aO.lu;split
 .exact DW.refl s
 .rename_i i hi;split
  .exact DW.refl s
  .rename_i r hr;split
   .exact DW.refl s
   .refine⟨rfl,rfl,rfl,aiO _ _ _,List.length_set,fun j x hx=>?_⟩;by_cases hj:j=i
    .subst hj;rw[hr]at hx;cases hx;exact⟨_,List.getElem?_set_self (List.getElem?_eq_some_iff.1 hr).1,rfl,_,rfl⟩
    .exact⟨x,by show(s.ah.set i _)[j]? =_;rw[List.getElem?_set_ne (fun e=>hj e.symm)];exact hx,rfl,[],by simp⟩
def Hx.aO.ZX(s:aO)(l:List (Nat×Nat)):aO:=l.foldl (fun s a=>(s.lu (a.1:Int) (a.2:Int)).1) s
theorem abQ{i:Nat}(h:i<s.ah.length):sH s (i:Int)=some i:=by
 unfold sH;rw[if_neg (by omega)];simp
theorem abO:∀(l:List (Nat×Nat))(s:aO),Sn s->Sn (s.ZX l)/\DW s (s.ZX l)
 |[],s,h=>⟨h,DW.refl s⟩
 |a::l,s,h=>by
  obtain⟨k1,k2⟩:=abO l _ (h.lu (a.1:Int) (a.2:Int)).1;exact⟨k1,(SA s _ _).trans k2⟩
theorem acy(s:aO)(a:Nat×Nat)(l:List (Nat×Nat)):s.ZX (a::l)=(s.lu (a.1:Int) (a.2:Int)).1.ZX l:=rfl
theorem abU(h:Sn s){i k q:Nat}{r:Lr}(hr:s.ah[i]? =some r)(hq:r.aT[k]? =some q)(hd:q<=s.bQ):∃r' n,(s.lu (i:Int) (k:Int)).1.ah[i]? =some r'/\r'.aX=r.aX++[n]/\q<n:=by
 have hil:=(List.getElem?_eq_some_iff.1 hr).1;have hkl:=(List.getElem?_eq_some_iff.1 hq).1;have hg:=ajS (d:=s.bQ) (q:=q) h.kept hd;have e0:r.aT.getD (k:Int).toNat 0=q:=by rw[Int.toNat_natCast,List.getD_eq_getElem?_getD,hq];rfl
 unfold aO.lu;rw[abQ hil];simp only;rw[hr];simp only;rw[if_neg (by omega),e0];exact⟨_,_,List.getElem?_set_self hil,rfl,hg⟩
theorem acB(l:List (Nat×Nat)):∀(s:aO)(i k q:Nat)(r:Lr),Sn s->(i,k)∈l->s.ah[i]? =some r->r.aT[k]? =some q->q<=s.bQ->
 ∃r' j n,(s.ZX l).ah[i]? =some r'/\r.aX.length<=j/\r'.aX[j]? =some n/\q<n:=by
 induction l with
 |nil=>intro s i k q r _ hm;exact absurd hm List.not_mem_nil
 |cons a l ih=>
  intro s i k q r h hm hr hq hd;rw[acy];have hn:=(h.lu (a.1:Int) (a.2:Int)).1;have ha:=SA s (a.1:Int) (a.2:Int);rcases List.mem_cons.1 hm with e|e
  .obtain⟨r1,n,c1,c2,c3⟩:=abU h hr hq hd;subst e;simp only at hn ha⊢;generalize (s.lu (i:Int) (k:Int)).1=s1 at *;obtain⟨r',b1,_,x,b3⟩:=(abO l _ hn).2.aK i r1 c1;refine⟨r',r.aX.length,n,b1,Nat.le_refl _,?_,c3⟩;rw[b3,c2];simp
  .obtain⟨r1,a1,a2,x,a3⟩:=ha.aK i r hr;have hd2:=ha.bQ;generalize (s.lu (a.1:Int) (a.2:Int)).1=s1 at *;obtain⟨r',j,n,b1,b2,b3,b4⟩:=ih _ i k q r1 hn e a1 (by rw[a2];exact hq) (Nat.le_trans hd hd2);refine⟨r',j,n,b1,?_,b3,b4⟩;rw[a3,List.length_append]at b2;omega
structure BK(s s':aO):Prop where
 dA:s.dA<=s'.dA
 acc:s'.acc=s.acc
 calm:s'.dA=s.dA/\s'.quiet=s.quiet\/s.dA<s'.dA/\s'.quiet= -1
 len:s'.ah.length=s.ah.length
 aK:∀(i:Nat)(r:Lr),s.ah[i]? =some r->∃r',s'.ah[i]? =some r'/\r'.aT=r.aT/\r'.aX=r.aX
theorem BK.refl(s:aO):BK s s:=⟨Nat.le_refl _,rfl,Or.inl ⟨rfl,rfl⟩,rfl,fun _ r hr=>⟨r,hr,rfl,rfl⟩⟩
theorem BK.trans(h:BK s s')(k:BK s' s2):BK s s2:=by
 refine⟨Nat.le_trans h.dA k.dA,k.acc.trans h.acc,?_,k.len.trans h.len,fun i r hr=>?_⟩
 .rcases h.calm with⟨a1,a2⟩|⟨a1,a2⟩
  .rcases k.calm with⟨b1,b2⟩|⟨b1,b2⟩
   .exact Or.inl ⟨b1.trans a1,b2.trans a2⟩
   .exact Or.inr ⟨by omega,b2⟩
  .rcases k.calm with⟨b1,b2⟩|⟨b1,b2⟩
   .exact Or.inr ⟨by omega,b2.trans a2⟩
   .exact Or.inr ⟨by omega,b2⟩
 .obtain⟨r1,a1,a2,a3⟩:=h.aK i r hr;obtain⟨r2,b1,b2,b3⟩:=k.aK i r1 a1;exact⟨r2,b1,b2.trans a2,b3.trans a3⟩
theorem ZR(s:aO)(aK k:Int):BK s (s.lZ aK k).1:=by
 unfold aO.lZ;split
 .exact BK.refl s
 .rename_i i hi;split
  .exact BK.refl s
  .rename_i r hr;split
   .exact BK.refl s
   .split
    .rename_i hk hn;generalize r.aX.getD k.toNat 0=n at *;refine⟨Nat.le_of_lt hn,rfl,Or.inr ⟨hn,rfl⟩,by show(((s.ah.map _).set i _)).length=_;rw[List.length_set,List.length_map],fun j x hx=>?_⟩;by_cases hj:j=i
     .subst hj;rw[hr]at hx;cases hx;exact⟨_,List.getElem?_set_self (by show j<(s.ah.map _).length;rw[List.length_map];exact(List.getElem?_eq_some_iff.1 hr).1),rfl,rfl⟩
     .exact⟨x.fD n,by show((s.ah.map _).set i _)[j]? =_;rw[List.getElem?_set_ne (fun e=>hj e.symm),List.getElem?_map,hx];rfl,rfl,rfl⟩
    .exact BK.refl s
def Hx.aO.abC(s:aO)(l:List (Nat×Nat)):aO:=l.foldl (fun s a=>(s.lZ (a.1:Int) (a.2:Int)).1) s
theorem abE:∀(l:List (Nat×Nat))(s:aO),Sn s->Sn (s.abC l)/\BK s (s.abC l)
 |[],s,h=>⟨h,BK.refl s⟩
 |a::l,s,h=>by
  obtain⟨k1,k2⟩:=abE l _ (h.lZ (a.1:Int) (a.2:Int)).1;exact⟨k1,(ZR s _ _).trans k2⟩
theorem abR(s:aO)(a:Nat×Nat)(l:List (Nat×Nat)):s.abC (a::l)=(s.lZ (a.1:Int) (a.2:Int)).1.abC l:=rfl
theorem abT{i k n:Nat}{r:Lr}(hr:s.ah[i]? =some r)(hn:r.aX[k]? =some n):n<=(s.lZ (i:Int) (k:Int)).1.dA:=by
 have hil:=(List.getElem?_eq_some_iff.1 hr).1;have hkl:=(List.getElem?_eq_some_iff.1 hn).1;have e0:r.aX.getD (k:Int).toNat 0=n:=by rw[Int.toNat_natCast,List.getD_eq_getElem?_getD,hn];rfl
 unfold aO.lZ;rw[abQ hil];simp only;rw[hr];simp only;rw[if_neg (by omega),e0];split
 .exact Nat.le_refl n
 .rename_i h;exact Nat.le_of_not_lt h
theorem abS(l:List (Nat×Nat)):∀(s:aO)(i k n:Nat)(r:Lr),Sn s->(i,k)∈l->s.ah[i]? =some r->r.aX[k]? =some n->n<=(s.abC l).dA:=by
 induction l with
 |nil=>intro s i k n r _ hm;exact absurd hm List.not_mem_nil
 |cons a l ih=>
  intro s i k n r h hm hr hn;rw[abR];have hs:=(h.lZ (a.1:Int) (a.2:Int)).1;have ha:=ZR s (a.1:Int) (a.2:Int);rcases List.mem_cons.1 hm with e|e
  .have e1:=abT hr hn;subst e;simp only at hs ha⊢;generalize (s.lZ (i:Int) (k:Int)).1=s1 at *;exact Nat.le_trans e1 (abE l _ hs).2.dA
  .obtain⟨r1,a1,a2,a3⟩:=ha.aK i r hr;generalize (s.lZ (a.1:Int) (a.2:Int)).1=s1 at *;exact ih _ i k n r1 hs e a1 (by rw[a3];exact hn)
structure vH(s s':aO):Prop where
 dA:s'.dA=s.dA
 acc:s'.acc=s.acc
 bQ:s'.bQ=s.bQ
 quiet:s'.quiet=s.quiet
 len:s'.ah.length=s.ah.length
 aK:∀(i:Nat)(r:Lr),s.ah[i]? =some r->∃r',s'.ah[i]? =some r'/\r'.aX=r.aX/\∃x,r'.aT=r.aT++x
theorem vH.refl(s:aO):vH s s:=⟨rfl,rfl,rfl,rfl,rfl,fun _ r hr=>⟨r,hr,rfl,[],by simp⟩⟩
theorem vH.trans(h:vH s s')(k:vH s' s2):vH s s2:=by
 refine⟨k.dA.trans h.dA,k.acc.trans h.acc,k.bQ.trans h.bQ,k.quiet.trans h.quiet,k.len.trans h.len,fun i r hr=>?_⟩;obtain⟨r1,a1,a2,x,a3⟩:=h.aK i r hr;obtain⟨r2,b1,b2,y,b3⟩:=k.aK i r1 a1;exact⟨r2,b1,b2.trans a2,x++y,by rw[b3,a3,List.append_assoc]⟩
theorem ahG{q i:Nat}{r:Lr}(hi:s.ah[i]? =some r):(s.send q i).ah[i]? =some (r.send q):=by
 have hg:s.ah.getD i lT=r:=by rw[List.getD_eq_getElem?_getD,hi];rfl
 show(s.ah.set i _)[i]? =_;rw[hg];exact List.getElem?_set_self (List.getElem?_eq_some_iff.1 hi).1
theorem ahH(s:aO)(q i:Nat):vH s (s.send q i):=by
 refine⟨rfl,rfl,rfl,rfl,List.length_set,fun j x hx=>?_⟩;by_cases hj:j=i
 .subst hj;exact⟨x.send q,ahG hx,rfl,[q],rfl⟩
 .exact⟨x,by show(s.ah.set i _)[j]? =_;rw[List.getElem?_set_ne (fun e=>hj e.symm)];exact hx,rfl,[],by simp⟩
theorem ahE(s:aO)(id seq:Int):vH s (s.act id seq):=by
 have hw:vH s {s with dN:=s.dN+1}:=⟨rfl,rfl,rfl,rfl,rfl,fun _ r hr=>⟨r,hr,rfl,[],by simp⟩⟩;unfold aO.act;split
 .split
  .split
   .exact hw
   .exact ahH s _ _
  .exact vH.refl s
 .exact hw
theorem Ny(s:aO)(a:Int×Int)(l:List (Int×Int)):s.aY (a::l)=(s.act a.1 a.2).aY l:=rfl
theorem ahF(l:List (Int×Int)):∀s:aO,vH s (s.aY l):=by
 induction l with
 |nil=>exact vH.refl
 |cons a l ih=>
  intro s;rw[Ny];exact(ahE s a.1 a.2).trans (ih _)
theorem ak1(s:aO)(x0 x1 x2 x3 x4 x5 x6 x7:Int):vH s (s.bG x0 x1 x2 x3 x4 x5 x6 x7):=⟨rfl,rfl,rfl,rfl,rfl,fun _ r hr=>⟨r,hr,rfl,[],by simp⟩⟩
theorem akk(h:Sn s)(hlt:s.dA<s.acc):(s.watch=s.fA.1/\s.fA.1={s with quiet:=s.quiet+1})\/∃r r',s.ah[s.turn]? =some r/\s.watch.ah[s.turn]? =some r'/\r'.aT=r.aT++[s.dA]/\r'.aX=r.aX/\s.watch.dA=s.dA/\s.watch.bQ=s.bQ/\s.watch.acc=s.acc:=by
 unfold Hx.aO.watch Hx.aO.fA;split
 .exact Or.inl ⟨rfl,rfl⟩
 .right;have ht:=h.turn;have hi:s.ah[s.turn]? =some s.ah[s.turn]:=List.getElem?_eq_getElem ht;simp only[if_true];have hl:KQ (({s with quiet:=0}:aO).aP++({s with quiet:=0}:aO).aG)=some s.dA:=h.least hlt;unfold aO.mD;rw[hl];exact⟨_,_,hi,ahG (s:={s with quiet:=0}) hi,rfl,rfl,rfl,rfl,rfl⟩
theorem akl(h:Sn s):Sn s.watch:=(h.watch (p:=over s.ah) (t:=8 * over s.ah+s.quiet.toNat) (Nat.le_refl _) (Nat.le_refl _)).1
theorem akZ(hlt:s.dA<s.acc){s0:aO}(h0:Sn s0)(hs:vH s s0)(l1 l2:List (Nat×Nat))
 (hl1:∀(i k:Nat)(r r':Lr),s.ah[i]? =some r->s0.watch.ah[i]? =some r'->r.aT.length<=k->k<r'.aT.length->(i,k)∈l1)
 (hl2:∀(i k:Nat)(r r':Lr),s0.watch.ah[i]? =some r->(s0.watch.ZX l1).ah[i]? =some r'->r.aX.length<=k->k<r'.aX.length->(i,k)∈l2):
 Sn ((s0.watch.ZX l1).abC l2)/\((s0.watch.ZX l1).abC l2).acc=s.acc/\(s.dA<((s0.watch.ZX l1).abC l2).dA/\((s0.watch.ZX l1).abC l2).quiet= -1\/((s0.watch.ZX l1).abC l2).dA=s.dA/\((s0.watch.ZX l1).abC l2).quiet=s.quiet+1):=by
 have hw:=akl h0;have wc:=akk h0 (by rw[hs.dA,hs.acc];exact hlt);generalize s0.watch=s1 at *;obtain⟨a1,a2⟩:=abO l1 s1 hw;obtain⟨b1,b2⟩:=abE l2 _ a1;rcases wc with⟨e1,e2⟩|⟨r,r',c1,c2,c3,c4,c5,c6,c7⟩
 .rw[e2]at e1;have q1:s1.dA=s.dA:=by rw[e1];exact hs.dA
  have q2:s1.acc=s.acc:=by rw[e1];exact hs.acc
  have q3:s1.quiet=s.quiet+1:=by rw[e1];show s0.quiet+1=_;rw[hs.quiet]
  refine⟨b1,by rw[b2.acc,a2.acc,q2],?_⟩;rcases b2.calm with⟨d1,d2⟩|⟨d1,d2⟩
  .exact Or.inr ⟨by rw[d1,a2.dA,q1],by rw[d2,a2.quiet,q3]⟩
  .exact Or.inl ⟨by rw[a2.dA,q1]at d1;exact d1,d2⟩
 .have q1:s1.dA=s.dA:=c5.trans hs.dA;have q2:s1.acc=s.acc:=c7.trans hs.acc;have htl:=(List.getElem?_eq_some_iff.1 c1).1;have hr0:s.ah[s0.turn]? =some (s.ah[s0.turn]'(by rw[<-hs.len];exact htl)):=List.getElem?_eq_getElem _;obtain⟨r0,f1,f2,x,f3⟩:=hs.aK s0.turn _ hr0;rw[c1]at f1;cases f1;have hin:(s0.turn,r.aT.length)∈l1:=hl1 s0.turn r.aT.length _ r' hr0 c2 (by rw[f3,List.length_append];omega) (by rw[c3,List.length_append];simp);have hsg:r'.aT[r.aT.length]? =some s0.dA:=by rw[c3];simp
  obtain⟨r2,j,n,g1,g2,g3,g4⟩:=acB l1 s1 s0.turn r.aT.length s0.dA r' hw hin c2 hsg (by rw[c6];exact h0.ak);have hjl:=(List.getElem?_eq_some_iff.1 g3).1;have hn:=abS l2 _ s0.turn j n r2 a1 (hl2 s0.turn j r' r2 c2 g1 g2 hjl) g1 g3;have hlt2:s.dA<((s1.ZX l1).abC l2).dA:=by rw[<-hs.dA];omega
  refine⟨b1,by rw[b2.acc,a2.acc,q2],Or.inl ⟨hlt2,?_⟩⟩;rcases b2.calm with⟨d1,d2⟩|⟨d1,d2⟩
  .rw[d1,a2.dA,q1]at hlt2;omega
  .exact d2
def abD(s:aO):Nat:=9 * (s.acc-s.dA)-(s.quiet+1).toNat
theorem ak2(h:Sn s)(hlt:s.dA<s.acc)(h':Sn s')(hc:s'.acc=s.acc)(hor:s.dA<s'.dA/\s'.quiet= -1\/s'.dA=s.dA/\s'.quiet=s.quiet+1):abD s'+1<=abD s:=by
 have q:=h.quiet;have k1:=h'.ak;have k2:=h'.dl;unfold abD;rw[hc]at k2⊢;rcases hor with⟨a1,a2⟩|⟨a1,a2⟩
 .rw[a2];have:((-1:Int)+1).toNat=0:=rfl;omega
 .rw[a1,a2];omega
theorem Sn.akp(h:Sn s)(ht:abD s=0):s.dA=s.acc/\s.bQ=s.acc/\s.aG=[]/\s.aP=[]:=by
 have q:=h.quiet;have k1:=h.ak;have k2:=h.dl;unfold abD at ht;have e:s.dA=s.acc:=by omega
 have hl:=h.len;refine⟨e,by omega,List.length_eq_zero_iff.1 (by omega),List.length_eq_zero_iff.1 (by omega)⟩
end
section
variable {s s':aO}{g a w c:Nat}
structure Nu(r:Lr)(g a:Nat):Prop where
 aT:r.aT.length+(8-r.out)<=g
 aQ:r.aQ.length<=r.aT.length
 aX:r.aX.length<=a
structure Bd(s:aO)(g a w c:Nat):Prop where
 aK:∀(i:Nat)(r:Lr),s.ah[i]? =some r->Nu r g a
 dN:s.dN<=w
 acc:s.acc<=c
theorem Bd.mono(h:Bd s g a w c){g' a' w' c':Nat}(h1:g<=g')(h2:a<=a')(h3:w<=w')(h4:c<=c'):Bd s g' a' w' c':=
 ⟨fun i r hr=>⟨Nat.le_trans (h.aK i r hr).aT h1,(h.aK i r hr).aQ,Nat.le_trans (h.aK i r hr).aX h2⟩,Nat.le_trans h.dN h3,Nat.le_trans h.acc h4⟩
theorem Me(h:Sn s)(b:Bd s g a w c)(hg:g<=10000000000)(ha:a<=10000000000000)(hw:w<=1000000000000000)(hc:c<=1000000000000):Small s:=by
 have h1:=h.f16;have h2:=h.vK;have h3:=h.len;have h4:=b.acc;have h5:=h.dl;have h6:=h.ak;have h7:=h.quiet;have h8:=h.acc;refine⟨by omega,by omega,by omega,fun i r hr=>?_,by omega,by omega,Nat.le_trans b.dN hw,⟨h7.1,by omega⟩,by omega,by omega⟩;have k:=b.aK i r hr;have k1:=k.aT;have k2:=k.aQ;have k3:=k.aX;have k4:=(h.aK i r hr).out;have k5:=(h.aK i r hr).c8;exact⟨by omega,by omega,by omega,by omega,by omega⟩
theorem Bd.DL(h:Bd s g a w c){i:Nat}{r':Lr}{g' a':Nat}(h1:g<=g')(h2:a<=a')(hr:Nu r' g' a'):∀(k:Nat)(x:Lr),(s.ah.set i r')[k]? =some x->Nu x g' a':=fun k x hx=>by
 by_cases hk:k=i
 .subst hk;have:=wH hx;subst this;exact hr
 .have:=h.aK k x (wG hx hk);exact⟨Nat.le_trans this.aT h1,this.aQ,Nat.le_trans this.aX h2⟩
theorem Bd.write(h:Bd s g a w c)(size:Int):Bd (s.write size).1 g a w (c+1):=by
 unfold aO.write;split
 .exact h.mono (Nat.le_refl _) (Nat.le_refl _) (Nat.le_refl _) (Nat.le_succ _)
 .split
  .exact h.mono (Nat.le_refl _) (Nat.le_refl _) (Nat.le_refl _) (Nat.le_succ _)
  .exact⟨h.aK,h.dN,Nat.succ_le_succ h.acc⟩
theorem Bd.send(h:Bd s g a w c){q i:Nat}{r:Lr}(hi:s.ah[i]? =some r){g':Nat}(hg:g<=g')(hr:r.aT.length+1+(8-(r.out+1))<=g'):Bd (s.send q i) g' a w c:=by
 have hgd:s.ah.getD i lT=r:=by rw[List.getD_eq_getElem?_getD,hi];rfl
 have k:=h.aK i r hi;refine⟨fun j x hx=>?_,h.dN,h.acc⟩;have hx2:(s.ah.set i ((s.ah.getD i lT).send q))[j]? =some x:=hx;rw[hgd]at hx2;refine h.DL (r':=r.send q) hg (Nat.le_refl _) ⟨?_,?_,k.aX⟩ j x hx2
 .show(r.aT++[q]).length+(8-(r.out+1))<=g';rw[List.length_append,List.length_singleton];exact hr
 .show(r.aQ++[q]).length<=(r.aT++[q]).length;have:=k.aQ;rw[List.length_append,List.length_append];omega
theorem Bd.act(h:Bd s g a w c)(hn:Sn s)(id seq:Int):Bd (s.act id seq) g a (w+1) c:=by
 have hw:Bd {s with dN:=s.dN+1} g a (w+1) c:=⟨h.aK,Nat.succ_le_succ h.dN,h.acc⟩;unfold aO.act;split
 .split
  .rename_i r hr;split
   .exact hw
   .rename_i hc;have k:=h.aK _ r hr;have k1:=k.aT;have k2:=(hn.aK _ r hr).c8;exact(h.send hr (Nat.le_refl _) (by omega)).mono (Nat.le_refl _) (Nat.le_refl _) (Nat.le_succ _) (Nat.le_refl _)
  .exact h.mono (Nat.le_refl _) (Nat.le_refl _) (Nat.le_succ _) (Nat.le_refl _)
 .exact hw
theorem Bd.mD(h:Bd s g a w c)(hn:Sn s):Bd s.mD (g+1) a w c:=by
 unfold aO.mD;split
 .exact h.mono (Nat.le_succ _) (Nat.le_refl _) (Nat.le_refl _) (Nat.le_refl _)
 .rename_i q hq;have ht:=hn.turn;have hi:s.ah[s.turn]? =some s.ah[s.turn]:=List.getElem?_eq_getElem ht;have k:=(h.aK _ _ hi).aT;have b:=h.send (q:=q) hi (Nat.le_succ g) (by omega);exact⟨b.aK,b.dN,b.acc⟩
theorem Bd.watch(h:Bd s g a w c)(hn:Sn s):Bd s.watch (g+1) a w c:=by
 obtain⟨d1,d2,d3⟩:=hn.fA;have hd:Bd s.fA.1 g a w c:=by
  unfold Hx.aO.fA;split
  .exact⟨h.aK,h.dN,h.acc⟩
  .exact⟨h.aK,h.dN,h.acc⟩
 unfold Hx.aO.watch;split
 .exact hd.mD d1
 .exact hd.mono (Nat.le_succ _) (Nat.le_refl _) (Nat.le_refl _) (Nat.le_refl _)
theorem Bd.aY(l:List (Int×Int)):∀{s:aO}{w:Nat},Bd s g a w c->Sn s->Bd (s.aY l) g a (w+l.length) c:=by
 induction l with
 |nil=>exact fun h _=>h
 |cons x l ih=>
  intro s w h hn;rw[Ny];have:=ih (h.act hn x.1 x.2) (hn.act x.1 x.2).1;rw[List.length_cons,show w+(l.length+1)=w+1+l.length by omega];exact this
theorem Bd.fD(h:Bd s g a w c)(n:Nat):Bd (s.fD n) (g+8) a w c:=by
 refine⟨fun i r hr=>?_,h.dN,h.acc⟩;have hr2:(s.ah.map fun r=>r.fD n)[i]? =some r:=hr;rw[List.getElem?_map]at hr2;cases hx:s.ah[i]?with
 |none=>rw[hx]at hr2;cases hr2
 |some x=>
  rw[hx]at hr2;cases hr2;have k:=h.aK i x hx;have k1:=k.aT;have k2:=k.aQ;have k3:=Oa x.aQ n;refine⟨?_,?_,k.aX⟩
  .show x.aT.length+(8-(eY x.aQ n).length)<=g+8;omega
  .show(eY x.aQ n).length<=x.aT.length;omega
theorem Bd.lZ(h:Bd s g a w c)(aK k:Int):Bd (s.lZ aK k).1 (g+8) a w c:=by
 have h8:=h.mono (Nat.le_add_right g 8) (Nat.le_refl a) (Nat.le_refl w) (Nat.le_refl c);unfold aO.lZ;split
 .exact h8
 .rename_i i hi;split
  .exact h8
  .rename_i r hr;split
   .exact h8
   .split
    .generalize r.aX.getD k.toNat 0=n at *;have b:=h.fD n;have hgi:(s.fD n).ah[i]? =some (r.fD n):=by show(s.ah.map _)[i]? =_;rw[List.getElem?_map,hr];rfl
     have k:=b.aK i _ hgi;exact⟨b.DL (Nat.le_refl _) (Nat.le_refl _) ⟨k.aT,k.aQ,k.aX⟩,b.dN,b.acc⟩
    .exact h8
theorem Bd.fU(h:Bd s g a w c)(aK:Int):Bd (s.fU aK).1 (g+8) a w c:=by
 have h8:=h.mono (Nat.le_add_right g 8) (Nat.le_refl a) (Nat.le_refl w) (Nat.le_refl c);unfold Hx.aO.fU;split
 .exact h8
 .rename_i i hi;split
  .exact h8
  .rename_i r hr;have k:=h.aK i r hr;have k1:=k.aT;refine⟨h.DL (Nat.le_add_right g 8) (Nat.le_refl _) ⟨?_,Nat.zero_le _,k.aX⟩,h.dN,h.acc⟩;show r.aT.length+(8-0)<=g+8;omega
theorem Bd.lu(h:Bd s g a w c)(aK k:Int):Bd (s.lu aK k).1 g (a+1) w c:=by
 have h8:=h.mono (Nat.le_refl g) (Nat.le_succ a) (Nat.le_refl w) (Nat.le_refl c);unfold aO.lu;split
 .exact h8
 .rename_i i hi;split
  .exact h8
  .rename_i r hr;split
   .exact h8
   .have k:=h.aK i r hr;have k1:=k.aX;refine⟨h.DL (Nat.le_refl _) (Nat.le_succ a) ⟨k.aT,k.aQ,?_⟩,h.dN,h.acc⟩;show(r.aX++[_]).length<=a+1;rw[List.length_append,List.length_singleton];omega
theorem aeN(n:Nat)(h1:1<=n):Sn (uN n)/\over (uN n).ah=0/\Bd (uN n) 8 0 0 0:=by
 have hr:∀(i:Nat)(r:Lr),(uN n).ah[i]? =some r->r=lT:=fun i r hr=>by
  have:(List.replicate n lT)[i]? =some r:=hr;rw[List.getElem?_replicate]at this;split at this
  .cases this;rfl
  .cases this
 have hk:∀x,(List.replicate 32 false).getD x false=false:=fun x=>by
  rw[List.getD_eq_getElem?_getD,List.getElem?_replicate];split<;>rfl
 refine⟨⟨rfl,Nat.le_refl _,Nat.le_refl _,List.Perm.refl _,fun q hq=>absurd hq List.not_mem_nil,Nat.zero_le _,Nat.zero_le _,fun q hq=>absurd hq List.not_mem_nil,rfl,fun j _ he=>?_,fun i r hx=>?_,?_,by show(-1:Int)<=0/\(0:Int)<=7;omega⟩,?_,⟨fun i r hx=>?_,Nat.le_refl _,Nat.le_refl _⟩⟩
 .have:(List.replicate 32 false).getD ((0+j)%32) false=true:=he;rw[hk]at this;cases this
 .rw[hr i r hx];exact⟨by decide,by decide,rfl,fun q hq=>absurd hq List.not_mem_nil,fun q hq=>absurd hq List.not_mem_nil,fun q hq=>absurd hq List.not_mem_nil⟩
 .show 0<(List.replicate n lT).length;rw[List.length_replicate];exact h1
 .show over (List.replicate n lT)=0;unfold over;rw[List.map_replicate];show(List.replicate n 0).sum=0;simp
 .rw[hr i r hx];exact⟨by decide,by decide,by decide⟩
end
end
end Go.Proofs.YthllhabjfchgiaaGreatDoor
