import Derived.Test.YthllhabjfchgiaaGreatDoorHs19
set_option maxRecDepth 100000
set_option maxHeartbeats 8000000
set_option linter.unusedSimpArgs false
namespace Go.Proofs.YthllhabjfchgiaaGreatDoor
open _root_.Go.Proofs.Tryz
section
open Go.RowKit Hx
structure Fr where
 is:List I
 jC:Int
 deep:Nat
 size:Nat
 jB:Nat->List Int->List St
def sZ(is:List I)(sl:Int):Int:=is.foldl (λsl i=>slotsOf (Hx.shape i.o) i.ns sl) sl
def Ld(p:Int)(s:List St)(bl:List Bk)(t:Bk)(lp:List Int)(sl n:Int):Ls:=⟨p,s,bl++[t],lp,sl,n,false⟩
structure Fr.Ok(fr:Fr)(inLoop:Bool):Prop where
 jC:0<=fr.jC
 size:∀b lp,(fr.jB b lp).length=fr.size
 load:∀(p:Int)(s:List St)(bl:List Bk)(t:Bk)(lp:List Int)(sl n:Int),lp.length+fr.deep<=8->(inLoop=true->lp≠[])->0<=t.jC->t.jC+fr.jC<=40000040->
  EO fr.is (Ld p s bl t lp sl n)/\fr.is.foldl uj (Ld p s bl t lp sl n)=Ld (p+(jX fr.is).length) (s++fr.jB s.length lp) bl ⟨t.opener,t.other,t.jC+fr.jC,t.before⟩ lp (sZ fr.is sl) n
theorem DC(p:Int)(s:List St)(a:List Bk)(t:Bk)(lp:List Int)(b n:Int):(Ld p s a t lp b n).jH≠[]:=by simp[Ld]
theorem EL(p:Int)(s:List St)(a:List Bk)(t:Bk)(lp:List Int)(b n:Int):(Ld p s a t lp b n).top=t:=by simp[Ld,Hx.Ls.top]
theorem MZ(p:Int)(s:List St)(a:List Bk)(t:Bk)(lp:List Int)(b n:Int):(Ld p s a t lp b n).jH.dropLast=a:=by simp[Ld]
def Fr.nil:Fr:=⟨[],0,0,0,λ_ _=>[]⟩
theorem Fr.OT(b:Bool):Fr.nil.Ok b:=by
 refine⟨aV 0,λ_ _=>rfl,λp s a t c d n _ _ _ _=>⟨trivial,?_⟩⟩;simp[Fr.nil,mD,sZ]
def Fr.seq(a b:Fr):Fr:=⟨a.is++b.is,a.jC+b.jC,max a.deep b.deep,a.size+b.size,λk lp=>a.jB k lp++b.jB (k+a.size) lp⟩
theorem Fr.uy{a b:Fr}{x:Bool}(d:a.Ok x)(e:b.Ok x):(a.seq b).Ok x:=by
 have y:=d.jC;have z:=e.jC;refine⟨by show 0<=a.jC+b.jC;omega,λk c=>by simp[Fr.seq,d.size,e.size],λp s f t c l n h i r j=>?_⟩;have h:c.length+max a.deep b.deep<=8:=h;have j:t.jC+(a.jC+b.jC)<=40000040:=j;obtain⟨u,g⟩:=d.load p s f t c l n (by omega) i r (by omega);obtain⟨w,q⟩:=e.load (p+(jX a.is).length) (s++a.jB s.length c) f ⟨t.opener,t.other,t.jC+a.jC,t.before⟩ c (sZ a.is l) n (by omega) i (by show 0<=t.jC+a.jC;omega) (by show t.jC+a.jC+b.jC<=_;omega);refine⟨u.append (by rw[g];exact w),?_⟩;show(a.is++b.is).foldl uj _=_;rw[dV,g,q];simp only[Fr.seq,nN,aA,d.size,bY,sZ,dV,iP,iC]
theorem Qn(p:Int)(s:List St)(a:List Bk)(t:Bk)(lp:List Int)(b n k:Int)(c:0<=t.jC+k)(d:t.jC+k<=40000040):(Ld p s a t lp b n).count k=Ld p s a ⟨t.opener,t.other,t.jC+k,t.before⟩ lp b n:=by
 have e:wrap64 (t.jC+k)=t.jC+k:=by unfold wrap64;omega
 unfold Hx.Ls.count;rw[EL,MZ,e,dO (by omega)]
 rfl
theorem Iw(p:Int)(s:List St)(a:List Bk)(t:Bk)(lp:List Int)(b n:Int)(st:St)(d:0<=t.jC)(c:t.jC+1<=40000040):mP (Ld p s a t lp b n) st=Ld p (s++[st]) a ⟨t.opener,t.other,t.jC+1,t.before⟩ lp b n:=
 Qn p (s++[st]) a t lp b n 1 (by omega) c
theorem Fh(p:Int)(s:List St)(a:List Bk)(t:Bk)(lp:List Int)(b n:Int)(i:I):uj (Ld p s a t lp b n) i=lH (Ld (p+(enc i).length) s a t lp (slotsOf (Hx.shape i.o) i.ns b) n) (stepOf i):=rfl
def Fr.ins(i:I):Fr:=⟨[i],1,0,1,λ_ _=>[stepOf i]⟩
theorem Fr.xP{i:I}(h:rE i)(d:6<=i.o\/i.o=1)(x:Bool):(Fr.ins i).Ok x:=by
 refine⟨by show(0:Int)<=1;omega,λ_ _=>rfl,λp s c t e f n _ _ a b=>⟨⟨(DC _ _ _ _ _ _ _),rfl,h,trivial⟩,?_⟩⟩;show uj _ i=_;rw[Fh];unfold lH;rw[jg (by show¬i.o=2;omega),jg (by show¬i.o=4;omega),jg (by show¬i.o=3;omega),jg (by show¬i.o=0;omega),jg (by show¬i.o=5;omega),Iw _ _ _ _ _ _ _ _ a b];simp only[Fr.ins,ny,mD,aX,sZ,bP,eF]
def Tf(a to':Int):St:=⟨5,a,0,0,0,0,to'⟩
def Fr.skip(a:Int):Fr:=⟨[⟨5,[a]⟩],1,0,1,λ_ lp=>[Tf a (lp.getLastD 0)]⟩
theorem Fr.ahe{a:Int}(h:rE ⟨5,[a]⟩):(Fr.skip a).Ok true:=by
 refine⟨by show(0:Int)<=1;omega,λ_ _=>rfl,λp s e t f g n _ b c d=>⟨⟨(DC _ _ _ _ _ _ _),rfl,h,trivial⟩,?_⟩⟩;show uj _ (⟨5,[a]⟩:I)=_;rw[Fh];unfold lH;rw[jg (by show¬(5:Int)=2;omega),jg (by show¬(5:Int)=4;omega),jg (by show¬(5:Int)=3;omega),jg (by show¬(5:Int)=0;omega),jh (by rfl)];unfold Jr;rw[jg (by exact b rfl),Iw _ _ _ _ _ _ _ _ c d];simp only[Fr.skip,ny,mD,aX,sZ,bP,eF]
 rfl
theorem S9{α:Type}(a:List α)(x y:α)(b:List α):(a++x::b).set a.length y=a++y::b:=by
 rw[iw _ _ (aj _)];simp
theorem NY{α:Type}(a:List α)(x:α)(b:List α):(a++x::b)[a.length]? =some x:=by simp
theorem Qq:rE ⟨0,[]⟩:=⟨⟨by decide,by decide⟩,rfl⟩
theorem alk:rE ⟨3,[]⟩:=⟨⟨by decide,by decide⟩,rfl⟩
def uh(a to':Int):St:=⟨2,a,0,0,0,0,to'⟩
def Ae(to':Int):St:=⟨3,0,0,0,0,0,to'⟩
def GN(to':Int):St:=⟨0,0,0,0,0,0,to'⟩
def mQ(list a b depth to':Int):St:=⟨4,list,a,b,0,depth,to'⟩
theorem afI{a:Int}(p:Int)(s:List St)(b:List Bk)(t:Bk)(lp:List Int)(c n:Int)(d:0<=t.jC)(e:t.jC+1<=40000040):uj (Ld p s b t lp c n) ⟨2,[a]⟩=
 Ld (p+(enc ⟨2,[a]⟩).length) (s++[uh a 0]) (b++[⟨t.opener,t.other,t.jC+1,t.before⟩]) ⟨s.length,0,0,0⟩ lp (slotsOf (Hx.shape 2) [a] c) n:=by
 rw[Fh];unfold lH;rw[jh (by rfl)];unfold xR;rw[Iw _ _ _ _ _ _ _ _ d e]
 rfl
theorem alq(p:Int)(s y:List St)(st:St)(h:List Bk)(t:Bk)(f g:Int)(lp:List Int)(j n:Int)(i:st.op=2)(r:0<=t.jC)(u:0<=f)(l:t.jC+max f g<=40000040):uj (Ld p (s++st::y) (h++[t]) ⟨s.length,0,f,g⟩ lp j n) ⟨0,[]⟩=
 Ld (p+(enc ⟨0,[]⟩).length) (s++⟨st.op,st.a,st.b,st.c,st.d,st.depth,((s++st::y).length:Nat)⟩::y) h ⟨t.opener,t.other,t.jC+max f g,t.before⟩ lp j n:=by
 rw[Fh];unfold lH;rw[jg (by show¬(0:Int)=2;omega),jg (by show¬(0:Int)=4;omega),jg (by show¬(0:Int)=3;omega),jh (by rfl),jg (by simp[Ld])];rw[EL,MZ];have e:(s++st::y)[((s.length:Int)).toNat]? =some st:=by rw[bK];exact NY _ _ _
 show(match (s++st::y)[((s.length:Int)).toNat]?with|none=>_|some sp=>_)=_;rw[e];simp only;rw[jg (by rw[i];omega),jg (by omega)];unfold uf;have q:=Qn (p+(enc ⟨0,[]⟩).length) ((s++st::y).set ((s.length:Int)).toNat ⟨st.op,st.a,st.b,st.c,st.d,st.depth,((s++st::y).length:Nat)⟩) h t lp j n (max f g) (by omega) l;refine Eq.trans ?_ (q.trans ?_)
 .rfl
 .rw[bK,S9]
def Fr.ifs(a:Int)(y:Fr):Fr:=⟨⟨2,[a]⟩::y.is++[⟨0,[]⟩],1+y.jC,y.deep,1+y.size,λb lp=>uh a ((b+1+y.size:Nat):Int)::y.jB (b+1) lp⟩
theorem Fr.anm{a:Int}{y:Fr}{x:Bool}(h:rE ⟨2,[a]⟩)(d:y.Ok x):(Fr.ifs a y).Ok x:=by
 have C:=d.jC;refine⟨by show 0<=1+y.jC;omega,λb c=>by simp[Fr.ifs,d.size];omega,λp s e t c l n g w z r=>?_⟩;have g:c.length+y.deep<=8:=g;have r:t.jC+(1+y.jC)<=40000040:=r;have q:=afI (a:=a) p s e t c l n z (by omega);obtain⟨B,f⟩:=d.load (p+(enc ⟨2,[a]⟩).length) (s++[uh a 0]) (e++[⟨t.opener,t.other,t.jC+1,t.before⟩]) ⟨s.length,0,0,0⟩ c (slotsOf (Hx.shape 2) [a] l) n g w (aV 0) (by show 0+y.jC<=_;omega);have j:=d.size (s.length+1) c;have A:(s++[uh a 0]).length=s.length+1:=by simp
 rw[A,bY,fC]at f;have u:=alq (p+(enc ⟨2,[a]⟩).length+(jX y.is).length) s (y.jB (s.length+1) c) (uh a 0) e ⟨t.opener,t.other,t.jC+1,t.before⟩ (0+y.jC) 0 c (sZ y.is (slotsOf (Hx.shape 2) [a] l)) n rfl (by show 0<=t.jC+1;omega) (by omega) (by show t.jC+1+max (0+y.jC) 0<=_;omega);refine⟨⟨(DC _ _ _ _ _ _ _),rfl,h,?_⟩,?_⟩
 .rw[q];refine B.append ?_;rw[f];exact⟨(DC _ _ _ _ _ _ _),rfl,Qq,trivial⟩
 .show((⟨2,[a]⟩:I)::y.is++[(⟨0,[]⟩:I)]).foldl uj _=_;rw[bZ,bP,q,dV,f];refine u.trans ?_;have i:t.jC+1+max (0+y.jC) 0=t.jC+(1+y.jC):=by omega
  simp only[Fr.ifs,ny,nN,mD,aX,aA,aF,j,sZ,bP,eF,dV,bZ,i,iP,iC,uh];rw[show((s.length:Int)+((y.size:Int)+((1:Nat):Int)))=(s.length:Int)+(((1:Nat):Int)+(y.size:Int)) by omega]
  rfl
theorem alb(p:Int)(s y:List St)(st:St)(e:List Bk)(f:Int)(lp:List Int)(g n:Int)(j:e≠[])(l:st.op=2)(q:0<=f)(r:f+1<=40000040):uj (Ld p (s++st::y) e ⟨s.length,0,f,0⟩ lp g n) ⟨3,[]⟩=
 Ld (p+(enc ⟨3,[]⟩).length) (s++⟨st.op,st.a,st.b,st.c,st.d,st.depth,((s++st::y).length+1:Nat)⟩::(y++[Ae 0])) e ⟨s.length,((s++st::y).length:Nat),0,f+1⟩ lp g n:=by
 rw[Fh];unfold lH;have i:¬((Ld (p+(enc ⟨3,[]⟩).length) (s++st::y) e ⟨s.length,0,f,0⟩ lp (slotsOf (Hx.shape 3) [] g) n).jH.length=1\/0<(Ld (p+(enc ⟨3,[]⟩).length) (s++st::y) e ⟨s.length,0,f,0⟩ lp (slotsOf (Hx.shape 3) [] g) n).top.other):=by
  rw[EL];have:0<e.length:=List.length_pos_iff.2 j;simp[Ld];omega
 rw[jg (by show¬(3:Int)=2;omega),jg (by show¬(3:Int)=4;omega),jh (by rfl),jg i,EL];have h:(s++st::y)[((s.length:Int)).toNat]? =some st:=by rw[bK];exact NY _ _ _
 show(match (s++st::y)[((s.length:Int)).toNat]?with|none=>_|some sp=>_)=_;rw[h];simp only;rw[jh l];unfold ES;have t:=Iw (p+(enc ⟨3,[]⟩).length) (s++st::y) e ⟨s.length,0,f,0⟩ lp g n (Ae 0) q r;show GI (mP (Ld (p+(enc ⟨3,[]⟩).length) (s++st::y) e ⟨s.length,0,f,0⟩ lp g n) (Ae 0)) _ _ st=_;rw[t];unfold GI;rw[EL,MZ];show Ld _ ((s++st::y++[Ae 0]).set ((s.length:Int)).toNat _) _ _ _ _ _=_;rw[bK,bY,bZ,S9];simp[Ld];omega
theorem alp(p:Int)(s y z:List St)(st e:St)(l:List Bk)(t:Bk)(h i:Int)(lp:List Int)(r n:Int)(q:st.op=2)(x:0<=t.jC)(A:0<=h)(u:t.jC+max h i<=40000040):uj (Ld p (s++st::(y++e::z)) (l++[t]) ⟨s.length,((s++st::y).length:Nat),h,i⟩ lp r n) ⟨0,[]⟩=
 Ld (p+(enc ⟨0,[]⟩).length) (s++st::(y++⟨e.op,e.a,e.b,e.c,e.d,e.depth,((s++st::(y++e::z)).length:Nat)⟩::z)) l ⟨t.opener,t.other,t.jC+max h i,t.before⟩ lp r n:=by
 rw[Fh];unfold lH;rw[jg (by show¬(0:Int)=2;omega),jg (by show¬(0:Int)=4;omega),jg (by show¬(0:Int)=3;omega),jh (by rfl),jg (by simp[Ld])];rw[EL,MZ];have g:(s++st::(y++e::z))[((s.length:Int)).toNat]? =some st:=by rw[bK];exact NY _ _ _
 have f:s++st::(y++e::z)=(s++st::y)++e::z:=by simp
 have j:(s++st::(y++e::z))[(((s++st::y).length:Nat):Int).toNat]? =some e:=by rw[bK,f];exact NY _ _ _
 show(match (s++st::(y++e::z))[((s.length:Int)).toNat]?with|none=>_|some sp=>_)=_;rw[g];simp only;rw[jg (by rw[q];omega),jh (by simp;omega)];show(match (s++st::(y++e::z))[(((s++st::y).length:Nat):Int).toNat]?with|none=>_|some sr=>_)=_;rw[j];simp only;unfold uf;have w:=Qn (p+(enc ⟨0,[]⟩).length) ((s++st::(y++e::z)).set (((s++st::y).length:Nat):Int).toNat ⟨e.op,e.a,e.b,e.c,e.d,e.depth,((s++st::(y++e::z)).length:Nat)⟩) l t lp r n (max h i) (by omega) u;refine Eq.trans ?_ (w.trans ?_)
 .rfl
 .rw[bK]
  conv=>lhs;rw[f]
  rw[S9];simp
def Fr.Fe(a:Int)(y z:Fr):Fr:=⟨⟨2,[a]⟩::y.is++(⟨3,[]⟩::z.is++[⟨0,[]⟩]),1+max z.jC (y.jC+1),max y.deep z.deep,1+y.size+(1+z.size),λb lp=>uh a ((b+1+y.size+1:Nat):Int)::(y.jB (b+1) lp++Ae ((b+1+y.size+1+z.size:Nat):Int)::z.jB (b+1+y.size+1) lp)⟩
theorem Fr.anj{a:Int}{y z:Fr}{x:Bool}(h:rE ⟨2,[a]⟩)(l:y.Ok x)(r:z.Ok x):(Fr.Fe a y z).Ok x:=by
 have R:=l.jC;have Q:=r.jC;refine⟨by show 0<=1+max z.jC (y.jC+1);omega,λb c=>by simp[Fr.Fe,l.size,r.size];omega,λp s e t c j n J K N L=>?_⟩;have J:c.length+max y.deep z.deep<=8:=J;have L:t.jC+(1+max z.jC (y.jC+1))<=40000040:=L;have G:=afI (a:=a) p s e t c j n N (by omega);obtain⟨P,u⟩:=l.load (p+(enc ⟨2,[a]⟩).length) (s++[uh a 0]) (e++[⟨t.opener,t.other,t.jC+1,t.before⟩]) ⟨s.length,0,0,0⟩ c (slotsOf (Hx.shape 2) [a] j) n (by omega) K (aV 0) (by show 0+y.jC<=_;omega);have d:=l.size (s.length+1) c;have O:(s++[uh a 0]).length=s.length+1:=by simp
 rw[O,bY,fC]at u;have w:=alb (p+(enc ⟨2,[a]⟩).length+(jX y.is).length) s (y.jB (s.length+1) c) (uh a 0) (e++[⟨t.opener,t.other,t.jC+1,t.before⟩]) (0+y.jC) c (sZ y.is (slotsOf (Hx.shape 2) [a] j)) n (by simp) rfl (by omega) (by omega);obtain⟨M,f⟩:=r.load (p+(enc ⟨2,[a]⟩).length+(jX y.is).length+(enc ⟨3,[]⟩).length) (s++uh a ((s++uh a 0::y.jB (s.length+1) c).length+1:Nat)::(y.jB (s.length+1) c++[Ae 0])) (e++[⟨t.opener,t.other,t.jC+1,t.before⟩]) ⟨s.length,((s++uh a 0::y.jB (s.length+1) c).length:Nat),0,0+y.jC+1⟩ c (sZ y.is (slotsOf (Hx.shape 2) [a] j)) n (by omega) K (aV 0) (by show 0+z.jC<=_;omega);have B:(s++uh a 0::y.jB (s.length+1) c).length=s.length+1+y.size:=by simp[d];omega
 have C:(s++uh a ((s++uh a 0::y.jB (s.length+1) c).length+1:Nat)::(y.jB (s.length+1) c++[Ae 0])).length=s.length+1+y.size+1:=by simp[d];omega
 have i:=r.size (s.length+1+y.size+1) c;rw[C]at f;rw[B]at w f M;have g:(s++uh a ((s.length+1+y.size+1:Nat):Int)::(y.jB (s.length+1) c++[Ae 0]))++z.jB (s.length+1+y.size+1) c=s++uh a ((s.length+1+y.size+1:Nat):Int)::(y.jB (s.length+1) c++Ae 0::z.jB (s.length+1+y.size+1) c):=by simp
 rw[g]at f;have H:=alp (p+(enc ⟨2,[a]⟩).length+(jX y.is).length+(enc ⟨3,[]⟩).length+(jX z.is).length) s (y.jB (s.length+1) c) (z.jB (s.length+1+y.size+1) c) (uh a ((s.length+1+y.size+1:Nat):Int)) (Ae 0) e ⟨t.opener,t.other,t.jC+1,t.before⟩ (0+z.jC) (0+y.jC+1) c (sZ z.is (sZ y.is (slotsOf (Hx.shape 2) [a] j))) n rfl (by show 0<=t.jC+1;omega) (by omega) (by show t.jC+1+max (0+z.jC) (0+y.jC+1)<=_;omega);have D:(s++uh a ((s.length+1+y.size+1:Nat):Int)::y.jB (s.length+1) c).length=s.length+1+y.size:=by simp[d];omega
 rw[D]at H;refine⟨⟨(DC _ _ _ _ _ _ _),rfl,h,?_⟩,?_⟩
 .rw[G];refine P.append ?_;rw[u];refine⟨(DC _ _ _ _ _ _ _),rfl,alk,?_⟩;rw[w];refine M.append ?_;have A:=f;rw[show(z.is.foldl uj _)=_ from A];exact⟨(DC _ _ _ _ _ _ _),rfl,Qq,trivial⟩
 .show((⟨2,[a]⟩:I)::y.is++((⟨3,[]⟩:I)::z.is++[(⟨0,[]⟩:I)])).foldl uj _=_;rw[bZ,bP,G,dV,u,bZ,bP,w,dV];refine(congrArg (λq=>[(⟨0,[]⟩:I)].foldl uj q) f).trans (H.trans ?_);have F:t.jC+1+max (0+z.jC) (0+y.jC+1)=t.jC+(1+max z.jC (y.jC+1)):=by omega
  have E:(s++uh a ((s.length+1+y.size+1:Nat):Int)::(y.jB (s.length+1) c++Ae 0::z.jB (s.length+1+y.size+1) c)).length=s.length+1+y.size+1+z.size:=by simp[d,i];omega
  rw[E,F];simp only[Fr.Fe,ny,nN,mD,aX,aA,sZ,bP,eF,dV,bZ,iP,iC,Ae]
  rfl
theorem ao6{list a b:Int}(p:Int)(s:List St)(c:List Bk)(t:Bk)(lp:List Int)(d n:Int)(h:lp.length<8)(e:0<=t.jC)(f:t.jC+1<=40000040):uj (Ld p s c t lp d n) ⟨4,[list,a,b]⟩=
 Ld (p+(enc ⟨4,[list,a,b]⟩).length) (s++[mQ list a b lp.length 0]) (c++[⟨t.opener,t.other,t.jC+1,t.before⟩]) ⟨s.length,0,0,0⟩ (lp++[(s.length:Int)]) (slotsOf (Hx.shape 4) [list,a,b] d) n:=by
 rw[Fh];unfold lH;rw[jg (by show¬(4:Int)=2;omega),jh (by rfl),jg (by show¬lp.length=8;omega)];unfold Ja xR;have g:=Iw (p+(enc ⟨4,[list,a,b]⟩).length) s c t lp (slotsOf (Hx.shape 4) [list,a,b] d) n (mQ list a b lp.length 0) e f;show({({mP (Ld (p+(enc ⟨4,[list,a,b]⟩).length) s c t lp (slotsOf (Hx.shape 4) [list,a,b] d) n) (mQ list a b lp.length 0)with jH:=(mP (Ld (p+(enc ⟨4,[list,a,b]⟩).length) s c t lp (slotsOf (Hx.shape 4) [list,a,b] d) n) (mQ list a b lp.length 0)).jH++[⟨s.length,0,0,0⟩]}:Ls)with jY:=lp++[(s.length:Int)]}:Ls)=_;rw[g]
 rfl
theorem alv(p:Int)(s y:List St)(st:St)(g:List Bk)(t:Bk)(f:Int)(lp:List Int)(h n:Int)(l:st.op=4)(B:0<=t.jC)(r:0<=f)(z:0<=Hx.kQ st.a * (f+1))(j:f+1<=40000040)(u:t.jC+Hx.kQ st.a * (f+1)<=40000040):uj (Ld p (s++st::y) (g++[t]) ⟨s.length,0,f,0⟩ (lp++[(s.length:Int)]) h n) ⟨0,[]⟩=
 Ld (p+(enc ⟨0,[]⟩).length) (s++⟨st.op,st.a,st.b,st.c,st.d,st.depth,((s++st::y).length+1:Nat)⟩::(y++[GN s.length])) g ⟨t.opener,t.other,t.jC+Hx.kQ st.a * (f+1),t.before⟩ lp h n:=by
 rw[Fh];unfold lH;rw[jg (by show¬(0:Int)=2;omega),jg (by show¬(0:Int)=4;omega),jg (by show¬(0:Int)=3;omega),jh (by rfl),jg (by simp[Ld]),EL];have i:(s++st::y)[((s.length:Int)).toNat]? =some st:=by rw[bK];exact NY _ _ _
 show(match (s++st::y)[((s.length:Int)).toNat]?with|none=>_|some sp=>_)=_;rw[i];simp only;rw[jh l];unfold Bc;have w:=Iw (p+(enc ⟨0,[]⟩).length) (s++st::y) (g++[t]) ⟨s.length,0,f,0⟩ (lp++[(s.length:Int)]) h n (GN s.length) r j;show GK (mP (Ld (p+(enc ⟨0,[]⟩).length) (s++st::y) (g++[t]) ⟨s.length,0,f,0⟩ (lp++[(s.length:Int)]) h n) (GN ((s.length:Int).toNat))) ((s.length:Int).toNat) st=_;rw[bK,w];unfold GK;rw[EL,MZ];have A:wrap64 (Hx.kQ st.a * (f+1))=Hx.kQ st.a * (f+1):=by unfold wrap64;omega
 have x:=Qn (p+(enc ⟨0,[]⟩).length) ((s++st::y++[GN s.length]).set s.length ⟨st.op,st.a,st.b,st.c,st.d,st.depth,((s++st::y++[GN s.length]).length:Nat)⟩) g t lp h n (Hx.kQ st.a * (f+1)) (by omega) u;have q:(lp++[(s.length:Int)]).dropLast=lp:=by simp
 have e:=q;show Hx.Ls.count ⟨p+(enc ⟨0,[]⟩).length,(s++st::y++[GN s.length]).set s.length _,g++[t],(lp++[(s.length:Int)]).dropLast,h,n,false⟩ (wrap64 (Hx.kQ st.a * (f+1)))=_;rw[A,q];refine x.trans ?_;rw[bY,bZ,S9];simp[Ld];omega
def Fr.loop(list a b:Int)(y:Fr):Fr:=⟨⟨4,[list,a,b]⟩::y.is++[⟨0,[]⟩],1+Hx.kQ list * (y.jC+1),y.deep+1,1+y.size+1,λk lp=>mQ list a b lp.length ((k+1+y.size+1:Nat):Int)::(y.jB (k+1) (lp++[(k:Int)])++[GN k])⟩
theorem KF(list:Int):8<=Hx.kQ list/\Hx.kQ list<=16:=by unfold Hx.kQ;split<;>omega
theorem aoE(list k:Int)(h:0<=k):8 * k<=Hx.kQ list * k:=by unfold Hx.kQ;split<;>omega
theorem Fr.aeA{list a b:Int}{y:Fr}{x:Bool}(h:rE ⟨4,[list,a,b]⟩)(e:y.Ok true):(Fr.loop list a b y).Ok x:=by
 have E:=e.jC;have B:=aoE list (y.jC+1) (by omega);refine⟨by show 0<=1+Hx.kQ list * (y.jC+1);omega,λk c=>by simp[Fr.loop,e.size];omega,λp s d t c l n r D z u=>?_⟩;have r:c.length+(y.deep+1)<=8:=r;have u:t.jC+(1+Hx.kQ list * (y.jC+1))<=40000040:=u;have q:=ao6 (list:=list) (a:=a) (b:=b) p s d t c l n (by omega) z (by omega);obtain⟨C,f⟩:=e.load (p+(enc ⟨4,[list,a,b]⟩).length) (s++[mQ list a b c.length 0]) (d++[⟨t.opener,t.other,t.jC+1,t.before⟩]) ⟨s.length,0,0,0⟩ (c++[(s.length:Int)]) (slotsOf (Hx.shape 4) [list,a,b] l) n (by simp;omega) (by simp) (aV 0) (by show 0+y.jC<=_;omega);have j:=e.size (s.length+1) (c++[(s.length:Int)]);have A:(s++[mQ list a b c.length 0]).length=s.length+1:=by simp
 rw[A,bY,fC]at f;have w:=alv (p+(enc ⟨4,[list,a,b]⟩).length+(jX y.is).length) s (y.jB (s.length+1) (c++[(s.length:Int)])) (mQ list a b c.length 0) d ⟨t.opener,t.other,t.jC+1,t.before⟩ (0+y.jC) c (sZ y.is (slotsOf (Hx.shape 4) [list,a,b] l)) n rfl (by show 0<=t.jC+1;omega) (by omega) (by show 0<=Hx.kQ list * (0+y.jC+1);rw[Int.zero_add];omega) (by omega) (by show t.jC+1+Hx.kQ list * (0+y.jC+1)<=_;rw[Int.zero_add];omega);refine⟨⟨(DC _ _ _ _ _ _ _),rfl,h,?_⟩,?_⟩
 .rw[q];refine C.append ?_;rw[f];exact⟨(DC _ _ _ _ _ _ _),rfl,Qq,trivial⟩
 .show((⟨4,[list,a,b]⟩:I)::y.is++[(⟨0,[]⟩:I)]).foldl uj _=_;rw[bZ,bP,q,dV,f];refine w.trans ?_;have g:(s++mQ list a b c.length 0::y.jB (s.length+1) (c++[(s.length:Int)])).length+1=s.length+1+y.size+1:=by simp[j];omega
  have i:t.jC+1+Hx.kQ list * (0+y.jC+1)=t.jC+(1+Hx.kQ list * (y.jC+1)):=by rw[Int.zero_add];omega
  rw[g];show Ld _ _ d ⟨t.opener,t.other,t.jC+1+Hx.kQ list * (0+y.jC+1),t.before⟩ _ _ _=_;rw[i];simp only[Fr.loop,ny,nN,mD,aX,aA,sZ,bP,eF,dV,bZ,iP,iC,mQ]
  rfl
theorem aoQ{fr:Fr}(h:fr.Ok false)(w:fr.jC+1<=40000040)(n:fr.deep<=8)(r:(jX (fr.is++[⟨0,[]⟩])).length<=100000):
 xA (Hx.bytes (jX (fr.is++[⟨0,[]⟩])))=true/\(mF (Hx.bytes (jX (fr.is++[⟨0,[]⟩])))).jB=fr.jB 0 []++[⟨1,0,0,0,0,0,0⟩]/\(mF (Hx.bytes (jX (fr.is++[⟨0,[]⟩])))).jD=sZ fr.is 8/\(mF (Hx.bytes (jX (fr.is++[⟨0,[]⟩])))).jC=fr.jC+1:=by
 have t:=h.jC;obtain⟨l,e⟩:=h.load 0 [] [] ⟨0,0,0,0⟩ [] 8 0 (by simpa using n) (by simp) (aV 0) (by show 0+fr.jC<=_;omega);have a:ug=Ld 0 [] [] ⟨0,0,0,0⟩ [] 8 0:=rfl;rw[<-a]at l e;have b:uj (Ld (0+(jX fr.is).length) ([]++fr.jB 0 []) [] ⟨0,0,0+fr.jC,0⟩ [] (sZ fr.is 8) 0) ⟨0,[]⟩=⟨0+(jX fr.is).length+(enc ⟨0,[]⟩).length,fr.jB 0 []++[⟨1,0,0,0,0,0,0⟩],[],[],sZ fr.is 8,fr.jC+1,false⟩:=by
  rw[Fh];unfold lH;rw[jg (by show¬(0:Int)=2;omega),jg (by show¬(0:Int)=4;omega),jg (by show¬(0:Int)=3;omega),jh (by rfl),jh (by simp[Ld])];unfold Ba;rw[Iw _ _ _ _ _ _ _ _ (by show 0<=0+fr.jC;omega) (by show 0+fr.jC+1<=_;omega),EL];simp[Ld,slotsOf,Hx.shape]
 have u:EO (fr.is++[⟨0,[]⟩]) ug:=l.append (by rw[e];exact⟨(DC _ _ _ _ _ _ _),rfl,Qq,trivial⟩);have g:yu (Hx.bytes (jX (fr.is++[⟨0,[]⟩]))) ug.pos.toNat (jX (fr.is++[⟨0,[]⟩])):=⟨[],by simp[ug]⟩;have j:(fr.is++[(⟨0,[]⟩:I)]).length<=(Hx.bytes (jX (fr.is++[⟨0,[]⟩]))).length:=by
  rw[Ny];have:∀d:List I,d.length<=(jX d).length:=by
   intro d;induction d with
   |nil=>simp
   |cons i d ih=>
    rw[ny,aA,aF];have:0<(enc i).length:=by simp[enc]
    omega
  exact this _
 have c:mF (Hx.bytes (jX (fr.is++[⟨0,[]⟩])))=⟨0+(jX fr.is).length+(enc ⟨0,[]⟩).length,fr.jB 0 []++[⟨1,0,0,0,0,0,0⟩],[],[],sZ fr.is 8,fr.jC+1,false⟩:=by
  unfold mF;obtain⟨f,p⟩:∃f,(Hx.bytes (jX (fr.is++[⟨0,[]⟩]))).length+1=(f+1)+(fr.is++[(⟨0,[]⟩:I)]).length:=⟨(Hx.bytes (jX (fr.is++[⟨0,[]⟩]))).length-(fr.is++[(⟨0,[]⟩:I)]).length,by omega⟩;rw[p,aeu _ _ _ (aV 0) u g,dV,e];refine(congrArg (λq=>vw (Hx.bytes (jX (fr.is++[⟨0,[]⟩]))) (f+1) q) b).trans ?_;unfold vw;rw[jh (jf rfl)]
 rw[c];refine⟨?_,rfl,rfl,rfl⟩;unfold xA;rw[c,Ny];simp only[Bool.not_false,Bool.and_true,dD,decide_eq_true_eq];refine⟨r,?_⟩;rw[nN,aA,ny,mD,aX,Int.zero_add,iC]
section
variable {v:Vw}{S:List St}{jF:List Int}{k k' k2:Nat}{m m' m2:Mc}{o:Out}
def Reaches(v:Vw)(S:List St)(jF:List Int)(k:Nat)(m:Mc)(k':Nat)(m':Mc):Prop:=∃n,∀f,Hx.runs v S jF (f+n) k m=Hx.runs v S jF f k' m'
def DJ(v:Vw)(S:List St)(jF:List Int)(k:Nat)(m:Mc)(o:Out):Prop:=∃n,∀f,Hx.runs v S jF (f+n) k m=o
theorem Reaches.refl(v:Vw)(S:List St)(jF:List Int)(k:Nat)(m:Mc):Reaches v S jF k m k m:=⟨0,λ_=>rfl⟩
theorem Reaches.trans(h:Reaches v S jF k m k' m')(c:Reaches v S jF k' m' k2 m2):Reaches v S jF k m k2 m2:=by
 obtain⟨a,d⟩:=h;obtain⟨b,e⟩:=c;exact⟨b+a,λf=>by rw[<-fE,d,e]⟩
theorem Reaches.stops(h:Reaches v S jF k m k' m')(c:DJ v S jF k' m' o):DJ v S jF k m o:=by
 obtain⟨a,d⟩:=h;obtain⟨b,e⟩:=c;exact⟨b+a,λf=>by rw[<-fE,d,e]⟩
theorem Bg{s:St}(a:S[k]? =some s)(h:Hx.step v S jF k s m=.inr ((k':Int),m')):Reaches v S jF k m k' m':=
 ⟨1,λf=>by simp only[Hx.runs,bK,a,h]⟩
theorem Yl{s:St}(a:S[k]? =some s)(h:Hx.step v S jF k s m=.inl o):DJ v S jF k m o:=
 ⟨1,λf=>by simp only[Hx.runs,bK,a,h]⟩
def uG(S:List St)(k:Nat)(xs:List St):Prop:=∀(j:Nat)(s:St),xs[j]? =some s->S[k+j]? =some s
theorem uG.left{xs b:List St}(h:uG S k (xs++b)):uG S k xs:=λj s a=>h j s (by rw[aT (List.getElem?_eq_some_iff.1 a).1];exact a)
theorem uG.right{xs a:List St}{n:Nat}(h:uG S k (xs++a))(c:xs.length=n):uG S (k+n) a:=λj s b=>by
 rw[fE];exact h (n+j) s (by rw[<-c,bW (by omega),Nat.add_sub_cancel_left];exact b)
theorem uG.head{x:St}{xs:List St}(h:uG S k (x::xs)):S[k]? =some x:=h 0 x rfl
theorem uG.tail{x:St}{xs:List St}(h:uG S k (x::xs)):uG S (k+1) xs:=λj s a=>by
 rw[fE];exact h (1+j) s (by rw[Nat.add_comm 1 j];exact a)
theorem Ed(m:Mc)(i x:Int):(m.put i x).jD.length=m.jD.length:=by simp[Mc.put]
theorem agm(m:Mc)(i x:Int):(m.lY i x).left.length=m.left.length:=by simp[Mc.lY]
theorem vW(m:Mc)(i x:Int)(a:0<=i)(b:i<m.jD.length):(m.put i x).get i=x:=by
 have:i.toNat<m.jD.length:=by omega
 simp[Mc.put,Mc.get,this]
theorem CQ(m:Mc)(i j x:Int)(a:0<=i)(b:0<=j)(h:i≠j):(m.put j x).get i=m.get i:=by
 have:j.toNat≠i.toNat:=by omega
 simp[Mc.put,Mc.get,aU,dQ this]
theorem Rt(m:Mc)(i:Nat)(x:Int)(h:i<m.left.length):(m.lY (i:Int) x).ni i=x:=by simp[Mc.lY,Mc.ni,h]
theorem Rq(m:Mc)(i j:Nat)(x:Int)(h:i≠j):(m.lY (j:Int) x).ni i=m.ni i:=by
 simp[Mc.lY,Mc.ni,aU,dQ (λe=>h e.symm)]
structure oU(free into:Int)(d:Nat)(m m':Mc):Prop where
 len:m'.jD.length=m.jD.length
 vk:m'.left.length=m.left.length
 jP:m'.jP=m.jP
 jD:∀i,0<=i->i<free->i≠into->m'.get i=m.get i
 left:∀j:Nat,j<d->m'.ni j=m.ni j
theorem oU.refl(free a:Int)(d:Nat)(m:Mc):oU free a d m m:=⟨rfl,rfl,rfl,λ_ _ _ _=>rfl,λ_ _=>rfl⟩
theorem oU.trans{free e:Int}{d:Nat}(h:oU free e d m m')(f:oU free e d m' m2):oU free e d m m2:=
 ⟨f.len.trans h.len,f.vk.trans h.vk,f.jP.trans h.jP,λi a b c=>(f.jD i a b c).trans (h.jD i a b c),λj g=>(f.left j g).trans (h.left j g)⟩
theorem oU.less{free e f g:Int}{d d':Nat}(h:oU free f d m m')(l:e<=free)(n:f=g\/f<0\/e<=f)(p:d'<=d):oU e g d' m m':=
 ⟨h.len,h.vk,h.jP,λi a b c=>h.jD i a (by omega) (by omega),λj q=>h.left j (by omega)⟩
theorem yG{free e j x:Int}{d:Nat}(h:j=e\/free<=j)(f:0<=j):oU free e d m (m.put j x):=
 ⟨Ed _ _ _,rfl,rfl,λi a b c=>CQ m i j x a f (by omega),λ_ _=>rfl⟩
theorem yM{i:I}(b:S[k]? =some (stepOf i))(c:6<=i.o)(a:i.o≠36):Reaches v S jF k m (k+1) (work v (stepOf i) m):=by
 refine Bg b ?_;unfold Hx.step;rw[jg (by show¬i.o=1;omega),jg (by show¬i.o=2;omega),jg (by show¬i.o=3;omega),jg (by show¬i.o=4;omega),jg (by show¬i.o=5;omega),jg (by show¬i.o=0;omega),jg (by exact a)]
 rfl
def Ir:List UInt8->List Int->Int->Prop
 |c::cs,n::ns,b=>(c=115->n+1<=b)/\Ir cs ns b
 |_,_,_=>True
def lF(is:List I)(b:Int):Prop:=∀i∈is,Ir (Hx.shape i.o) i.ns b
theorem Jb:∀{c:List UInt8}{d:List Int}{b a:Int},Ir c d b->b<=a->Ir c d a
 |[],_,_,_,_,_=>trivial
 |_::_,[],_,_,_,_=>trivial
 |_::_,_::_,_,_,⟨h1,h2⟩,hb=>⟨λe=>fD (h1 e) hb,Jb h2 hb⟩
theorem WX:∀{c:List UInt8}{a:List Int}{b:Int},(∀n∈a,n+1<=b)->Ir c a b
 |[],_,_,_=>trivial
 |_::_,[],_,_=>trivial
 |_::_,_::_,_,h=>⟨λ_=>h _ (aW ..),WX λx d=>h x (aI _ d)⟩
theorem lF.nil(b:Int):lF [] b:=λ_ h=>jl h (by simp)
theorem lF.append{a c:List I}{b:Int}(h:lF a b)(k:lF c b):lF (a++c) b:=λi d=>(List.mem_append.1 d).elim (h i) (k i)
theorem lF.wide{a:List I}{b c:Int}(h:lF a b)(d:b<=c):lF a c:=λi e=>Jb (h i e) d
theorem lF.one{i:I}{b:Int}(h:Ir (Hx.shape i.o) i.ns b):lF [i] b:=λj a=>by rw[cO.1 a];exact h
theorem Ya:∀(a:List UInt8)(b:List Int)(d:Int),d<=slotsOf a b d
 |[],_,_=>aV _
 |_::_,[],_=>aV _
 |c::a,n::b,d=>by
  unfold slotsOf;refine fD ?_ (Ya a b _);split<;>omega
theorem X9:∀(a:List I)(b:Int),b<=sZ a b
 |[],_=>aV _
 |_::a,_=>fD (Ya _ _ _) (X9 a _)
theorem aeE:∀(a:List UInt8)(b:List Int)(d:Int),Ir a b (slotsOf a b d)
 |[],_,_=>trivial
 |_::_,[],_=>trivial
 |c::a,n::b,d=>by
  unfold slotsOf;refine⟨λe=>?_,aeE a b _⟩;have:=Ya a b (if c=115 then max d (n+1)else d);rw[jh e]at this⊢;omega
theorem aeF:∀(a:List I)(c:Int),lF a (sZ a c)
 |[],_=>lF.nil _
 |i::a,c=>by
  intro j b;rcases dh.1 b with rfl|b
  .exact Jb (aeE _ _ c) (X9 a _)
  .exact aeF a _ j b
theorem lF.left{a c:List I}{b:Int}(h:lF (a++c) b):lF a b:=λi d=>h i (eP _ d)
theorem lF.right{a c:List I}{b:Int}(h:lF (a++c) b):lF c b:=λi d=>h i (List.mem_append_right _ d)
end
end
namespace Hx
open Go.RowKit
abbrev tk:=jk->Nat->Nat->jm->Prop
structure Lawful(E:tk):Prop where
 loc:∀w w' lo hi v,E w lo hi v->(∀b,lo<=b->b<hi->w'.heap[b]? =w.heap[b]?)->E w' lo hi v
 wide:∀w lo hi lo' hi' v,E w lo hi v->lo'<=lo->hi<=hi'->E w lo' hi' v
abbrev Kids:=jk->Nat->Nat->List jm->Prop
structure zh(K:Kids):Prop where
 loc:∀w w' lo hi us,K w lo hi us->(∀b,lo<=b->b<hi->w'.heap[b]? =w.heap[b]?)->K w' lo hi us
 wide:∀w lo hi lo' hi' us,K w lo hi us->lo'<=lo->hi<=hi'->K w lo' hi' us
def zH:Kids:=λ_ _ _ us=>us=[]
def oD(E:tk):Kids:=λw lo hi us=>∃u,us=[u]/\E w lo hi u
def yC(E F:tk):Kids:=λw lo hi us=>∃m u v,us=[u,v]/\lo<=m/\m<=hi/\E w lo m u/\F w m hi v
theorem C9:zh zH:=⟨λ_ _ _ _ _ h _=>h,λ_ _ _ _ _ _ h _ _=>h⟩
theorem qW{E:tk}(h:Lawful E):zh (oD E):=
 ⟨λ_ _ _ _ _ ⟨u,e,a⟩ d=>⟨u,e,h.loc _ _ _ _ _ a d⟩,λ_ _ _ _ _ _ ⟨u,e,a⟩ b c=>⟨u,e,h.wide _ _ _ _ _ _ a b c⟩⟩
theorem wU{E F:tk}(h:Lawful E)(k:Lawful F):zh (yC E F):=
 ⟨λ_ _ _ _ _ ⟨m,u,v,e,g,i,a,c⟩ j=>⟨m,u,v,e,g,i,h.loc _ _ _ _ _ a (λb d f=>j b d (by omega)),k.loc _ _ _ _ _ c (λb d f=>j b (by omega) f)⟩,
  λ_ _ _ _ _ _ ⟨m,u,v,e,g,i,a,c⟩ l n=>⟨m,u,v,e,by omega,by omega,h.wide _ _ _ _ _ _ a l (aj _),k.wide _ _ _ _ _ _ c (aj _) n⟩⟩
structure Ex where
 at':Int
 jw:Int
 here:Int->tk
 does:Dn
end Hx
section
open Go.RowKit Hx
attribute [local go_sem ↓] Go.wp_at_zero Go.wp_at_succ
attribute [local go_sem] kN
def lQ(T:jo):Prop:=T∈[405,392,386,389,395,379,374,383,398,410,413]
theorem lQ.sH{T:jo}(h:lQ T)(A:Nat)(w:jk):(method 576 T (Pt A 0) "helm/lang.price").run prog w=.ok (244,Pt A 0) w:=by
 simp only[lQ,dh,dU,or_false]at h;rcases h with rfl|rfl|rfl|rfl|rfl|rfl|rfl|rfl|rfl|rfl|rfl<;>kernel_rfl
theorem lQ.widen{T:jo}(h:lQ T)(A:Nat)(w:jk):(method 576 T (Pt A 0) "helm/lang.widen").run prog w=.ok (357,Pt A 0) w:=by
 simp only[lQ,dh,dU,or_false]at h;rcases h with rfl|rfl|rfl|rfl|rfl|rfl|rfl|rfl|rfl|rfl|rfl<;>kernel_rfl
theorem lQ.sort{T:jo}(h:lQ T)(A:Nat)(w:jk):(method 576 T (Pt A 0) "helm/lang.sort").run prog w=.ok (356,Pt A 0) w:=by
 simp only[lQ,dh,dU,or_false]at h;rcases h with rfl|rfl|rfl|rfl|rfl|rfl|rfl|rfl|rfl|rfl|rfl<;>kernel_rfl
theorem lQ.place{T:jo}(h:lQ T)(A:Nat)(w:jk):(method 576 T (Pt A 0) "helm/lang.place").run prog w=.ok (312,Pt A 0) w:=by
 simp only[lQ,dh,dU,or_false]at h;rcases h with rfl|rfl|rfl|rfl|rfl|rfl|rfl|rfl|rfl|rfl|rfl<;>kernel_rfl
structure kT(e:Ex):Prop where
 law:∀a,Lawful (e.here a)
 head:∀a w lo hi v,e.here a w lo hi v->∃T b,v=.iface T (Pt b 0)/\lQ T/\lo<=b/\b<hi/\w.cell? (Ad b 0)=some (Im a)/\w.cell? (Ad b 1)=some (Im e.jw)/\∀j,w.frozen? (Ad b j)=false
 widen:∀a a' w lo hi T b,e.here a w lo hi (.iface T (Pt b 0))->e.here a' (w.setCell (Ad b 0) (Im a')) lo hi (.iface T (Pt b 0))
 jw:0<=e.jw/\e.jw<=1000001
def rH(T' T:jo)(at' jw kind:Int)(K:Hx.Kids)(mk:List jm->List jm)(dn:Dn:={}):Ex:=
 ⟨at',jw,λa w lo hi v=>∃b us,v=.iface T' (Pt b 0)/\lo<=b/\b<hi/\K w lo b us/\w.heap[b]? =some (.cells (Im a::Im jw::Im kind::mk us).toArray T),dn⟩
theorem wE{T' T:jo}{at' jw kind:Int}{K:Hx.Kids}{mk:List jm->List jm}{dn:Dn}(u:lQ T')(l:zh K)(x:0<=jw/\jw<=1000001):kT (rH T' T at' jw kind K mk dn):=by
 refine⟨λa=>⟨?_,?_⟩,?_,?_,x⟩
 .rintro w E p n v ⟨b,h,f,d,e,g,c⟩ r;exact⟨b,h,f,d,e,l.loc _ _ _ _ _ g (λq i t=>r q i (by omega)),(r b d e).trans c⟩
 .rintro w p n A y v ⟨b,h,f,d,e,g,c⟩ z D;exact⟨b,h,f,by omega,by omega,l.wide _ _ _ _ _ _ g z (aj _),c⟩
 .rintro a w p n v ⟨b,h,f,d,e,g,c⟩;exact⟨T',b,f,u,d,e,jG c,jG c,λj=>nA c⟩
 .rintro a C w p n B i ⟨b,h,f,d,e,g,c⟩;cases f;refine⟨i,h,rfl,d,e,l.loc _ _ _ _ _ g (λq _ t=>bC _ _ _ _ (by simp only;omega)),?_⟩;exact aK _ _ _ _ _ _ c
end
namespace Hx
open Go.RowKit
structure Sx where
 at':Int
 jw:Int
 base:ji
 of:Int
 jE:List (Wd×Ex)
def Qc(d:Wd)(v:jm):List jm:=[.string d.text,Im d.at',v]
def uY(g:Nat):List (Wd×Ex)->jk->Nat->Nat->List jm->Prop
 |[],_,_,_,us=>us=[]
 |b::bs,w,lo,hi,us=>∃l m u us',us=u::us'/\lo<=l/\l<=m/\m<=hi/\(g<l\/m<=g)/\b.2.here b.2.at' w l m u/\uY g bs w m hi us'
def xK:List (Wd×Ex)->List jm->List jm
 |b::bs,u::us=>Qc b.1 u++xK bs us
 |_,_=>[]
def asB(T:jo)(x:Sx)(S:Nat)(w:jk)(lo hi:Nat)(fv:jm):Prop:=
 (x.jE=[]/\fv=Nl)\/
 ∃g cap m us arr,fv=.slice (some (Ad g 0)) x.jE.length cap/\S<g/\g<hi/\lo<=m/\S<m/\uY g x.jE w m hi us/\w.heap[g]? =some (.cells arr T)/\
  ∀(j:Nat)(v:jm),(xK x.jE us)[j]? =some v->arr[j]? =some v
def agX(T T2:jo)(x:Sx):tk:=λw lo hi v=>
 ∃S fv,v=Pt S 0/\lo<=S/\S<hi/\w.heap[S]? =some (.cells #[Im x.at',Im x.jw,.string x.base,Im x.of,fv] T)/\asB T2 x S w lo hi fv
theorem Gz{g:Nat}:∀{d:List (Wd×Ex)}{w j:jk}{f e:Nat}{i:List jm},(∀b∈d,∀a,Lawful (b.2.here a))->uY g d w f e i->(∀b,f<=b->b<e->j.heap[b]? =w.heap[b]?)->uY g d j f e i
 |[],_,_,_,_,_,_,h,_=>h
 |b::d,_,_,_,_,_,hl,⟨l,m,u,us',h0,h1,h2,h3,h4,h5,h6⟩,hk=>
  ⟨l,m,u,us',h0,h1,h2,h3,h4,(hl b (aW ..) _).loc _ _ _ _ _ h5 (λk p k2=>hk k (by omega) (by omega)),Gz (λc n=>hl c (aI _ n)) h6 (λk p k2=>hk k (by omega) k2)⟩
theorem Qh{g:Nat}:∀{b:List (Wd×Ex)}{w:jk}{d c a:Nat}{e:List jm},uY g b w d c e->c<=a->uY g b w d a e
 |[],_,_,_,_,_,h,_=>h
 |_::_,_,_,_,_,_,⟨l,m,u,us',h0,h1,h2,h3,h4,h5,h6⟩,hh=>⟨l,m,u,us',h0,h1,h2,by omega,h4,h5,Qh h6 hh⟩
theorem abM{g:Nat}:∀{d:List (Wd×Ex)}{w:jk}{c l m e:Nat}{a:List jm}{b:Wd×Ex}{u:jm},uY g d w c l a->b.2.here b.2.at' w l m u->c<=l->l<=m->m<=e->(g<l\/m<=g)->uY g (d++[b]) w c e (a++[u])
 |[],_,_,l,m,_,a,b,u,h,hb,h1,h2,h3,hg=>by
  have h:a=[]:=h;subst h;exact⟨l,m,u,[],rfl,h1,h2,h3,hg,hb,rfl⟩
 |_::_,_,_,_,_,_,_,_,u,⟨l',m',v,us',h0,h1,h2,h3,h4,h5,h6⟩,hb,k1,k2,k3,hg=>by
  subst h0;exact⟨l',m',v,us'++[u],rfl,h1,h2,by omega,h4,h5,abM h6 hb h3 k2 k3 hg⟩
theorem abL{g c:Nat}:∀{b:List (Wd×Ex)}{w:jk}{d a:Nat}{e:List jm},uY g b w d a e->a<=c->uY c b w d a e
 |[],_,_,_,_,h,_=>h
 |_::_,_,_,_,_,⟨l,m,u,us',h0,h1,h2,h3,_,h5,h6⟩,hh=>⟨l,m,u,us',h0,h1,h2,h3,je (by omega),h5,abL h6 hh⟩
theorem Pg{T B:jo}{x:Sx}(F:∀b∈x.jE,∀a,Lawful (b.2.here a)):Lawful (agX T B x):=by
 constructor
 .rintro w L H D v ⟨S,f,n,h,i,j,e⟩ l;refine⟨S,f,n,h,i,(l S h i).trans j,?_⟩;rcases e with e|⟨g,d,m,z,c,p,k2,q,A,r,t,u,y⟩
  .exact jf e
  .exact je ⟨g,d,m,z,c,p,k2,q,A,r,Gz F t (λb J C=>l b (by omega) C),(l g (by omega) q).trans u,y⟩
 .rintro w H D I E v ⟨S,f,n,h,i,j,e⟩ K G;refine⟨S,f,n,by omega,by omega,j,?_⟩;rcases e with e|⟨g,d,m,z,c,p,k2,q,A,r,t,u,y⟩
  .exact jf e
  .exact je ⟨g,d,m,z,c,p,k2,by omega,by omega,r,Qh t G,u,y⟩
end Hx
section
open Go.RowKit Hx
section
def oZ(x:Sx):tk:=agX 348 361 x
def oG(of:Int)(fs:List (Wd×Ex))(c:Ck):Ck:=fs.foldl (λc b=>c.bracket b.1.text b.1.at' b.2.does b.2.at' of 2) c
def jO(base:ji):Int:=if base.data.toList==[70,82,69,83,72]then 1 else if base.data.toList==[65,71,65,73,78]then 2 else 0
def Hx.Co.jE(one:Int)(fs:List (Wd×Ex))(c:Co):Co:=fs.foldl (λc b=>((c.inside b.1.text b.2.does one).1.lay 5 [(c.inside b.1.text b.2.does one).2]).kC c.free) c
def Hx.Co.ku(c:Co)(list:Int)(fs:List (Wd×Ex)):Co×Int:=(Co.jE c.hold.2 fs ((c.hold.1.lay 21 [c.hold.2,list]).lay 4 [list,c.hold.2,c.hold.2]),c.hold.2)
def Hx.Co.nk(c:Co)(list:Int)(fs:List (Wd×Ex)):Co×Int:=
 if fs.length=0 then (c.hold.1.lay 21 [c.hold.2,list],c.hold.2)
 else
  let o:=(c.hold.1.lay 6 [c.hold.2,0]).ku list fs
  (((o.1.lay 22 [c.hold.2,o.2]).lay 0 []).kC (wrap64 (c.hold.2+1)),c.hold.2)
def wZ(n:Int)(c:Co)(into:Int):Co×Int:=((c.choose into).1.lay 6 [(c.choose into).2,n],(c.choose into).2)
def Ic(b:Bool)(c:Co)(into:Int):Co×Int:=((c.choose into).1.lay 6 [(c.choose into).2,if b then 1 else 0],(c.choose into).2)
def sK(kind is:Int):oK:=if kind=2 then {tag:=2,val:=if is=0 then 0 else 1,give:=Ic (decide (is≠0))}else {tag:=1,val:=is,give:=wZ is}
def Hx.oK.known(f:oK):Bool:=f.tag==1||f.tag==2
def Hx.oK.lg(f:oK)(b:Bool):Bool:=f.tag==2&&f.val==(if b then 1 else 0)
def um(kind:Int)(sign:ji)(f:oK):oK:=
 if f.tag=1 then sK kind (wrap64 (-f.val))else if f.tag=2 then sK kind (if f.val=0 then 1 else 0)
 else if f.tag=3 then {give:=f.sub}else {tag:=3,give:=λc into=>c.one (if sign.data.toList==[45]then 8 else 9) into f.dn,sub:=f.give}
def Dl(kind:Int)(sign:ji)(l r:oK):oK:=
 let o:=if sign.data.toList==[62]then 15 else if sign.data.toList==[62,61]then 16 else vH sign.data.toList
 let sw:=sign.data.toList==[62]||sign.data.toList==[62,61]
 if l.known&&r.known then sK kind (if sw then two o r.val l.val else two o l.val r.val)
 else if (o==19||o==20)&&(l.lg (o==20)||r.lg (o !=20))then l
 else if (o==19||o==20)&&(r.lg (o==20)||l.lg (o !=20))then r
 else {give:=λc into=>if sw then c.two o into r.dn l.dn else c.two o into l.dn r.dn}
def Hx.Sx.fold(x:Sx):List (Wd×Ex):=(x.jE.filter λb=>!(b.2.does.fd.lg true)).map λb=>(b.1,{b.2 with does:=b.2.does.fd.dn})
def afd(n:Int):Dn:=⟨λ_=>1,λc=>c,λc into=>((c.choose into).1.lay 6 [(c.choose into).2,n],(c.choose into).2),{tag:=1,val:=n,give:=wZ n}⟩
def ah2(kind:Int)(b:Bool):Dn:=⟨λ_=>kind,λc=>c,λc into=>((c.choose into).1.lay 6 [(c.choose into).2,if b then 1 else 0],(c.choose into).2),{tag:=2,val:=if b then 1 else 0,give:=Ic b}⟩
def asb(i:Int):Dn:=⟨λ_=>1,λc=>c,λc _=>(c,i),{give:=λc _=>(c,i)}⟩
def avm(d:Wd):Dn:=⟨λns=>(lJ ns d.text).kind,λc=>if (lJ c.jy d.text).kind=0 then c.fail 2 d.at' else c,λc _=>(c,c.wK d.text),{give:=λc _=>(c,c.wK d.text)}⟩
def adZ(e:Ex):Dn:=⟨λ_=>2,λc=>if e.does.jZ c.jy=3 then e.does.look c else (e.does.look c).want (e.does.jZ c.jy) e.at' 4,λc into=>c.one 27 into e.does,{give:=λc into=>c.one 27 into e.does.fd.dn}⟩
def aft(kind:Int)(sign:ji)(e:Ex):Dn:=⟨λ_=>kind,λc=>(e.does.look c).want (e.does.jZ c.jy) e.at' kind,λc into=>c.one (if sign.data.toList==[45]then 8 else 9) into e.does,um kind sign e.does.fd⟩
def ru(sign:ji)(left:Int):Int:=if (mJ sign.data.toList).1=0 then (if left=2 then 2 else 1)else (mJ sign.data.toList).1
def YA(kind:Int)(sign:ji)(l r:Ex):Dn:=
 ⟨λ_=>kind,
  λc=>
   let side:=ru sign (l.does.jZ c.jy)
   let c1:=(l.does.look c).want (l.does.jZ c.jy) l.at' side
   (r.does.look c1).want (r.does.jZ c1.jy) r.at' side,
  λc into=>if sign.data.toList==[62]then c.two 15 into r.does l.does else if sign.data.toList==[62,61]then c.two 16 into r.does l.does else c.two (vH sign.data.toList) into l.does r.does,
  Dl kind sign l.does.fd r.does.fd⟩
def af9(kind owner:Int)(e:Ex)(d:Wd):Dn:=
 ⟨λ_=>kind,λc=>(if owner=0 then (e.does.look c).fail 2 d.at' else e.does.look c).want (e.does.jZ c.jy) e.at' owner,λc into=>c.one (pU d.text.data.toList) into e.does,{give:=λc into=>c.one (pU d.text.data.toList) into e.does.fd.dn}⟩
def afl(l r:Ex):Dn:=
 ⟨λ_=>2,
  λc=>
   let c1:=(l.does.look c).want (l.does.jZ c.jy) l.at' 4
   (r.does.look c1).want (r.does.jZ c1.jy) r.at' 3,
  λc into=>c.two 35 into l.does r.does,{give:=λc into=>c.two 35 into l.does.fd.dn r.does.fd.dn}⟩
def abb(kind:Int)(what:ji)(x:Sx):Dn:=
 ⟨λ_=>kind,oG x.of x.jE,
  λc into=>
   let f:=c.nk (jO x.base) x.jE
   let k:=(f.1.kC c.free).choose into
   (k.1.lay (if what.data.toList==[99,111,117,110,116]then 23 else 24) [k.2,f.2],k.2),
  {give:=λc into=>
    let f:=c.nk (jO x.base) x.fold
    let k:=(f.1.kC c.free).choose into
    (k.1.lay (if what.data.toList==[99,111,117,110,116]then 23 else 24) [k.2,f.2],k.2)}⟩
def yR(kind:Int)(what:ji)(x:Sx)(b:Wd×Ex):Dn:=
 ⟨λ_=>kind,
  λc=>(oG x.of x.jE c).bracket b.1.text b.1.at' b.2.does b.2.at' x.of (if what.data.toList==[97,110,121]then 2 else 1),
  λc _=>
   let answer:=c.hold.2
   let best:=c.hold.1.hold.2
   let o:=(c.hold.1.hold.1.lay 6 [answer,if kind=3\/kind=4 then -1 else 0]).ku (jO x.base) x.jE
   let i:=o.1.inside b.1.text b.2.does o.2
   let m:=if what.data.toList==[109,105,110]then i.1.lay 25 [answer,best,o.2,i.2]else if what.data.toList==[109,97,120]then i.1.lay 26 [answer,best,o.2,i.2]
    else if what.data.toList==[115,117,109]then i.1.lay 10 [answer,answer,i.2]else if what.data.toList==[97,110,121]then i.1.lay 20 [answer,answer,i.2]else i.1
   ((m.lay 0 []).kC (wrap64 (answer+1)),answer),
  {give:=λc _=>
    let answer:=c.hold.2
    let best:=c.hold.1.hold.2
    let o:=(c.hold.1.hold.1.lay 6 [answer,if kind=3\/kind=4 then -1 else 0]).ku (jO x.base) x.fold
    let i:=o.1.inside b.1.text b.2.does.fd.dn o.2
    let m:=if what.data.toList==[109,105,110]then i.1.lay 25 [answer,best,o.2,i.2]else if what.data.toList==[109,97,120]then i.1.lay 26 [answer,best,o.2,i.2]
     else if what.data.toList==[115,117,109]then i.1.lay 10 [answer,answer,i.2]else if what.data.toList==[97,110,121]then i.1.lay 20 [answer,answer,i.2]else i.1
    ((m.lay 0 []).kC (wrap64 (answer+1)),answer)}⟩
def Ak(at' n:Int):Ex:=rH 405 407 at' 1 1 zH (λ_=>[Im n]) (afd n)
def AB(at' jw kind:Int)(b:Bool):Ex:=rH 392 394 at' jw kind zH (λ_=>[.bool b]) (ah2 kind b)
def Ee(at' i:Int):Ex:=rH 386 388 at' 1 1 zH (λ_=>[Im i]) (asb i)
def nK(at':Int)(d:Wd):Ex:=⟨at',1,λa w lo hi v=>∃k,(rH 389 391 at' 1 k zH (λ_=>[.string d.text,Im d.at'])).here a w lo hi v,avm d⟩
def yP(at':Int)(e:Ex):Ex:=rH 395 397 at' (jS [e.jw]) 2 (oD (e.here e.at')) (λus=>us) (adZ e)
def sG(at' kind:Int)(sign:ji)(e:Ex):Ex:=rH 379 381 at' (jS [e.jw]) kind (oD (e.here e.at')) (λus=>.string sign::us) (aft kind sign e)
def nX(at' kind:Int)(sign:ji)(l r:Ex):Ex:=rH 374 376 at' (jS [l.jw,r.jw]) kind (yC (l.here l.at') (r.here r.at')) (λus=>.string sign::us) (YA kind sign l r)
def oQ(at' kind owner:Int)(e:Ex)(d:Wd):Ex:=rH 383 385 at' (jS [e.jw]) kind (oD (e.here e.at')) (λus=>Im owner::us++[.string d.text,Im d.at']) (af9 kind owner e d)
def wG(at':Int)(l r:Ex):Ex:=rH 398 400 at' (jS [l.jw,r.jw]) 2 (yC (l.here l.at') (r.here r.at')) (λus=>us) (afl l r)
def wP(kind:Int)(what:ji)(x:Sx):Ex:=rH 410 412 x.at' (jS [x.jw]) kind (oD (oZ x)) (λus=>.string what::us) (abb kind what x)
def Hx.Sx.round(x:Sx)(c:Int):Int:=kZ [(if x.of=3 then 8 else 16) * kZ [1,c]]
def qL(kind:Int)(what:ji)(x:Sx)(b:Wd×Ex):Ex:=
 rH 413 415 x.at' (jS [x.jw,x.round b.2.jw]) kind (yC (oZ x) (b.2.here b.2.at')) (λus=>.string what::(us.take 1++[.string b.1.text,Im b.1.at']++us.drop 1)) (yR kind what x b)
def rJ:Ex:=AB 0 0 0 false
def Hx.Ex.widen(e:Ex)(a:Int):Ex:={e with at':=a}
def Hx.Sx.add(x:Sx)(b:Wd×Ex):Sx:={x with jE:=x.jE++[b],jw:=kZ [x.jw,x.round b.2.jw]}
namespace Hx
section
variable (s:ji)(ex:Ps->Ex×Ps)
def Fg(p:Ps):Ex×Ps:=((ex (p.ku s [40])).1,(ex (p.ku s [40])).2.close s [41])
def wF(at':Int)(e:Ex)(p:Ps):Ex×Ps:=(wG at' e (ex (p.ku s [40])).1,(ex (p.ku s [40])).2.close s [41])
def qm(p:Ps):(Wd×Ex)×Ps:=
 let d:=(p.ku s [40]).name s
 let e:=ex (d.2.expect s [58])
 ((d.1,e.1),e.2.close s [41])
def qY:Nat->Sx->Ps->(Sx×Bool)×Ps
 |0,x,p=>((x,false),p)
 |n+1,x,p=>if p.is [46]then
   (if (p.next s).is [102,105,108,116,101,114]then qY n (x.add (qm s ex ((p.next s).next s)).1) (qm s ex ((p.next s).next s)).2 else ((x,true),p.next s))
  else ((x,false),p)
def nB(n:Nat)(p:Ps):(Sx×Bool)×Ps:=match setOf p.k.text.data.toList with
 |some of=>qY s ex n ⟨p.k.at',1,p.k.text,of,[]⟩ (p.next s)
 |none=>((⟨p.k.at',1,p.k.text,4,[]⟩,false),p.fail)
def Nv(x:Sx)(kind:Int)(p:Ps):Ex×Ps:=(wP kind p.k.text x,p.next s)
def Ec(x:Sx)(kind:Int)(p:Ps):Ex×Ps:=(qL kind p.k.text x (qm s ex (p.next s)).1,(qm s ex (p.next s)).2)
def FD(x:Sx)(p:Ps):Ex×Ps:=
 if p.is [99,111,117,110,116]then Nv s x 1 p else if p.is [102,105,114,115,116]then Nv s x x.of p else if p.is [109,105,110]||p.is [109,97,120]then Ec s ex x x.of p
 else if p.is [115,117,109]then Ec s ex x 1 p else if p.is [97,110,121]then Ec s ex x 2 p else (rJ,p.fail)
def Ar(n:Nat)(p:Ps):Ex×Ps:=if (nB s ex n p).1.2 then FD s ex (nB s ex n p).1.1 (nB s ex n p).2 else (rJ,(nB s ex n p).2.fail)
def tX(n:Nat)(p:Ps):Ex×Ps:=
 if p.k.kind=3 then (Ak p.k.at' ((Lib.atoi p.k.text.data.toList).getD 0),p.next s)
 else if p.k.kind=4 then (Ee p.k.at' ((p.k.text.data.toList.getD 1 0).toNat-48),p.next s)
 else if p.k.kind=2 then (nK p.k.at' ⟨p.k.text,p.k.at'⟩,p.next s)
 else if p.is [116,114,117,101]||p.is [102,97,108,115,101]then (AB p.k.at' 1 2 (p.is [116,114,117,101]),p.next s)
 else if p.is [40]then ((Fg s ex p).1.widen p.k.at',(Fg s ex p).2)
 else if p.is [105,115,110,111,110,101]then (yP p.k.at' (Fg s ex (p.next s)).1,(Fg s ex (p.next s)).2)
 else if (setOf p.k.text.data.toList).isSome then Ar s ex n p
 else (rJ,p.fail)
def tY(at':Int):Nat->Ex->Ps->Ex×Ps
 |0,e,p=>(e,p)
 |n+1,e,p=>if p.is [46]then
   (let d:=(p.next s).name s
    if d.1.text.data.toList==[111,110]&&d.2.is [40]then tY at' n (wF s ex at' e d.2).1 (wF s ex at' e d.2).2
    else tY at' n (oQ at' (kY d.1.text.data.toList).2 (kY d.1.text.data.toList).1 e d.1) d.2)
  else (e,p)
def Cm(n:Nat)(p:Ps):Ex×Ps:=tY s ex p.k.at' n (tX s ex n p).1 (tX s ex n p).2
def wX(n:Nat):Nat->Ps->Ex×Ps
 |0,p=>Cm s ex n p
 |m+1,p=>if p.is [45]then (sG p.k.at' 1 p.k.text (wX n m (p.next s)).1,(wX n m (p.next s)).2)
  else if p.is [33]then (sG p.k.at' 2 p.k.text (wX n m (p.next s)).1,(wX n m (p.next s)).2)else Cm s ex n p
end
def wH(s:ji)(lower:Ps->Ex×Ps)(of:Int)(at':Int):Nat->Ex->Ps->Ex×Ps
 |0,e,p=>(e,p)
 |n+1,e,p=>if pX p.k.text.data.toList=of then
   (let r:=lower (p.next s)
    let e':=nX at' (mJ p.k.text.data.toList).2 p.k.text e r.1
    if of=2\/of=3 then (e',r.2)else wH s lower of at' n e' r.2)
  else (e,p)
def Bz(s:ji)(ex:Ps->Ex×Ps)(n:Nat):Nat->Ps->Ex×Ps
 |0,p=>wX s ex n n p
 |l+1,p=>wH s (Bz s ex n l) (5-l) p.k.at' n (Bz s ex n l p).1 (Bz s ex n l p).2
def lG(s:ji):Nat->Ps->Ex×Ps
 |0,p=>(rJ,p.fail)
 |d+1,p=>Bz s (lG s d) (s.size+1) 6 p
end Hx
end
end
end Go.Proofs.YthllhabjfchgiaaGreatDoor
