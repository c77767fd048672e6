import Derived.Test.YthllhabjfchgiaaGreatDoorHb19
set_option maxRecDepth 100000
set_option maxHeartbeats 8000000
set_option linter.unusedSimpArgs false
namespace Go.Proofs.YthllhabjfchgiaaGreatDoor
open _root_.Go.Proofs.Tryz
section
open Go.RowKit Hx
structure Fr where
 is:List I
 jD:Int
 deep:Nat
 size:Nat
 jC:Nat->List Int->List St
def rQ(is:List I)(sl:Int):Int:=is.foldl (λsl i=>slotsOf (Hx.shape i.o) i.ns sl) sl
def Ld(p:Int)(s:List St)(bl:List Bk)(t:Bk)(lp:List Int)(sl n:Int):Ls:=⟨p,s,bl++[t],lp,sl,n,false⟩
structure Fr.Ok(fr:Fr)(inLoop:Bool):Prop where
 jD:0<=fr.jD
 size:∀b lp,(fr.jC b lp).length=fr.size
 load:∀(p:Int)(s:List St)(bl:List Bk)(t:Bk)(lp:List Int)(sl n:Int),lp.length+fr.deep<=8->(inLoop=true->lp≠[])->0<=t.jD->t.jD+fr.jD<=40000040->
  D5 fr.is (Ld p s bl t lp sl n)/\fr.is.foldl tJ (Ld p s bl t lp sl n)=Ld (p+(jX fr.is).length) (s++fr.jC s.length lp) bl ⟨t.opener,t.other,t.jD+fr.jD,t.before⟩ lp (rQ fr.is sl) n
theorem CB(p:Int)(s:List St)(bl:List Bk)(t:Bk)(lp:List Int)(sl n:Int):(Ld p s bl t lp sl n).jI≠[]:=by simp[Ld]
theorem DY(p:Int)(s:List St)(bl:List Bk)(t:Bk)(lp:List Int)(sl n:Int):(Ld p s bl t lp sl n).top=t:=by simp[Ld,Hx.Ls.top]
theorem KN(p:Int)(s:List St)(bl:List Bk)(t:Bk)(lp:List Int)(sl n:Int):(Ld p s bl t lp sl n).jI.dropLast=bl:=by simp[Ld]
def Fr.nil:Fr:=⟨[],0,0,0,λ_ _=>[]⟩
theorem Fr.Nj(b:Bool):Fr.nil.Ok b:=by
 refine⟨aV 0,λ_ _=>rfl,λp s bl t lp sl n _ _ _ _=>⟨trivial,?_⟩⟩;simp[Fr.nil,l9,rQ]
def Fr.seq(a b:Fr):Fr:=⟨a.is++b.is,a.jD+b.jD,max a.deep b.deep,a.size+b.size,λk lp=>a.jC k lp++b.jC (k+a.size) lp⟩
theorem Fr.ug{a b:Fr}{x:Bool}(ha:a.Ok x)(hb:b.Ok x):(a.seq b).Ok x:=by
 have n1:=ha.jD;have n2:=hb.jD;refine⟨by show 0<=a.jD+b.jD;omega,λk lp=>by simp[Fr.seq,ha.size,hb.size],λp s bl t lp sl n h2 h3 h4 h5=>?_⟩;have h2:lp.length+max a.deep b.deep<=8:=h2;have h5:t.jD+(a.jD+b.jD)<=40000040:=h5;obtain⟨t1,e1⟩:=ha.load p s bl t lp sl n (by omega) h3 h4 (by omega);obtain⟨t2,e2⟩:=hb.load (p+(jX a.is).length) (s++a.jC s.length lp) bl ⟨t.opener,t.other,t.jD+a.jD,t.before⟩ lp (rQ a.is sl) n (by omega) h3 (by show 0<=t.jD+a.jD;omega) (by show t.jD+a.jD+b.jD<=_;omega);refine⟨t1.append (by rw[e1];exact t2),?_⟩;show(a.is++b.is).foldl tJ _=_;rw[dV,e1,e2];simp only[Fr.seq,nI,aA,ha.size,bY,rQ,dV,iR,iE]
theorem OL(p:Int)(s:List St)(bl:List Bk)(t:Bk)(lp:List Int)(sl n k:Int)(h0:0<=t.jD+k)(h1:t.jD+k<=40000040):(Ld p s bl t lp sl n).count k=Ld p s bl ⟨t.opener,t.other,t.jD+k,t.before⟩ lp sl n:=by
 have e:wrap64 (t.jD+k)=t.jD+k:=by unfold wrap64;omega
 unfold Hx.Ls.count;rw[DY,KN,e,dO (by omega)]
 rfl
theorem G8(p:Int)(s:List St)(bl:List Bk)(t:Bk)(lp:List Int)(sl n:Int)(st:St)(h0:0<=t.jD)(h1:t.jD+1<=40000040):mF (Ld p s bl t lp sl n) st=Ld p (s++[st]) bl ⟨t.opener,t.other,t.jD+1,t.before⟩ lp sl n:=
 OL p (s++[st]) bl t lp sl n 1 (by omega) h1
theorem Et(p:Int)(s:List St)(bl:List Bk)(t:Bk)(lp:List Int)(sl n:Int)(i:I):tJ (Ld p s bl t lp sl n) i=lD (Ld (p+(enc i).length) s bl t lp (slotsOf (Hx.shape i.o) i.ns sl) n) (stepOf i):=rfl
def Fr.ins(i:I):Fr:=⟨[i],1,0,1,λ_ _=>[stepOf i]⟩
theorem Fr.wW{i:I}(h:qN i)(hn:6<=i.o\/i.o=1)(x:Bool):(Fr.ins i).Ok x:=by
 refine⟨by show(0:Int)<=1;omega,λ_ _=>rfl,λp s bl t lp sl n _ _ h4 h5=>⟨⟨(CB _ _ _ _ _ _ _),rfl,h,trivial⟩,?_⟩⟩;show tJ _ i=_;rw[Et];unfold lD;rw[jk (by show¬i.o=2;omega),jk (by show¬i.o=4;omega),jk (by show¬i.o=3;omega),jk (by show¬i.o=0;omega),jk (by show¬i.o=5;omega),G8 _ _ _ _ _ _ _ _ h4 h5];simp only[Fr.ins,nk,l9,aX,rQ,bP,eF]
def Rk(a to':Int):St:=⟨5,a,0,0,0,0,to'⟩
def Fr.skip(a:Int):Fr:=⟨[⟨5,[a]⟩],1,0,1,λ_ lp=>[Rk a (lp.getLastD 0)]⟩
theorem Fr.afr{a:Int}(h:qN ⟨5,[a]⟩):(Fr.skip a).Ok true:=by
 refine⟨by show(0:Int)<=1;omega,λ_ _=>rfl,λp s bl t lp sl n _ h3 h4 h5=>⟨⟨(CB _ _ _ _ _ _ _),rfl,h,trivial⟩,?_⟩⟩;show tJ _ (⟨5,[a]⟩:I)=_;rw[Et];unfold lD;rw[jk (by show¬(5:Int)=2;omega),jk (by show¬(5:Int)=4;omega),jk (by show¬(5:Int)=3;omega),jk (by show¬(5:Int)=0;omega),jl (by rfl)];unfold IB;rw[jk (by exact h3 rfl),G8 _ _ _ _ _ _ _ _ h4 h5];simp only[Fr.skip,nk,l9,aX,rQ,bP,eF]
 rfl
theorem Rh{α:Type}(a:List α)(x y:α)(b:List α):(a++x::b).set a.length y=a++y::b:=by
 rw[iC _ _ (aj _)];simp
theorem LU{α:Type}(a:List α)(x:α)(b:List α):(a++x::b)[a.length]? =some x:=by simp
theorem OQ:qN ⟨0,[]⟩:=⟨⟨by decide,by decide⟩,rfl⟩
theorem ajb:qN ⟨3,[]⟩:=⟨⟨by decide,by decide⟩,rfl⟩
def tH(a to':Int):St:=⟨2,a,0,0,0,0,to'⟩
def zC(to':Int):St:=⟨3,0,0,0,0,0,to'⟩
def Ed(to':Int):St:=⟨0,0,0,0,0,0,to'⟩
def mg(list a b depth to':Int):St:=⟨4,list,a,b,0,depth,to'⟩
theorem ad2{a:Int}(p:Int)(s:List St)(bl:List Bk)(t:Bk)(lp:List Int)(sl n:Int)(h4:0<=t.jD)(h5:t.jD+1<=40000040):tJ (Ld p s bl t lp sl n) ⟨2,[a]⟩=
 Ld (p+(enc ⟨2,[a]⟩).length) (s++[tH a 0]) (bl++[⟨t.opener,t.other,t.jD+1,t.before⟩]) ⟨s.length,0,0,0⟩ lp (slotsOf (Hx.shape 2) [a] sl) n:=by
 rw[Et];unfold lD;rw[jl (by rfl)];unfold wZ;rw[G8 _ _ _ _ _ _ _ _ h4 h5]
 rfl
theorem ajg(p:Int)(s y:List St)(st:St)(bl:List Bk)(t:Bk)(nd bf:Int)(lp:List Int)(sl n:Int)(hst:st.op=2)(h0:0<=t.jD)(h1:0<=nd)(h2:t.jD+max nd bf<=40000040):tJ (Ld p (s++st::y) (bl++[t]) ⟨s.length,0,nd,bf⟩ lp sl n) ⟨0,[]⟩=
 Ld (p+(enc ⟨0,[]⟩).length) (s++⟨st.op,st.a,st.b,st.c,st.d,st.depth,((s++st::y).length:Nat)⟩::y) bl ⟨t.opener,t.other,t.jD+max nd bf,t.before⟩ lp sl n:=by
 rw[Et];unfold lD;rw[jk (by show¬(0:Int)=2;omega),jk (by show¬(0:Int)=4;omega),jk (by show¬(0:Int)=3;omega),jl (by rfl),jk (by simp[Ld])];rw[DY,KN];have hget:(s++st::y)[((s.length:Int)).toNat]? =some st:=by rw[bK];exact LU _ _ _
 show(match (s++st::y)[((s.length:Int)).toNat]?with|none=>_|some sp=>_)=_;rw[hget];simp only;rw[jk (by rw[hst];omega),jk (by omega)];unfold tu;have hc:=OL (p+(enc ⟨0,[]⟩).length) ((s++st::y).set ((s.length:Int)).toNat ⟨st.op,st.a,st.b,st.c,st.d,st.depth,((s++st::y).length:Nat)⟩) bl t lp sl n (max nd bf) (by omega) h2;refine Eq.trans ?_ (hc.trans ?_)
 .rfl
 .rw[bK,Rh]
def Fr.ifs(a:Int)(y:Fr):Fr:=⟨⟨2,[a]⟩::y.is++[⟨0,[]⟩],1+y.jD,y.deep,1+y.size,λb lp=>tH a ((b+1+y.size:Nat):Int)::y.jC (b+1) lp⟩
theorem Fr.akV{a:Int}{y:Fr}{x:Bool}(h:qN ⟨2,[a]⟩)(hy:y.Ok x):(Fr.ifs a y).Ok x:=by
 have hn:=hy.jD;refine⟨by show 0<=1+y.jD;omega,λb lp=>by simp[Fr.ifs,hy.size];omega,λp s bl t lp sl n h2 h3 h4 h5=>?_⟩;have h2:lp.length+y.deep<=8:=h2;have h5:t.jD+(1+y.jD)<=40000040:=h5;have e1:=ad2 (a:=a) p s bl t lp sl n h4 (by omega);obtain⟨t2,e2⟩:=hy.load (p+(enc ⟨2,[a]⟩).length) (s++[tH a 0]) (bl++[⟨t.opener,t.other,t.jD+1,t.before⟩]) ⟨s.length,0,0,0⟩ lp (slotsOf (Hx.shape 2) [a] sl) n h2 h3 (aV 0) (by show 0+y.jD<=_;omega);have hsz:=hy.size (s.length+1) lp;have hl:(s++[tH a 0]).length=s.length+1:=by simp
 rw[hl,bY,fC]at e2;have e3:=ajg (p+(enc ⟨2,[a]⟩).length+(jX y.is).length) s (y.jC (s.length+1) lp) (tH a 0) bl ⟨t.opener,t.other,t.jD+1,t.before⟩ (0+y.jD) 0 lp (rQ y.is (slotsOf (Hx.shape 2) [a] sl)) n rfl (by show 0<=t.jD+1;omega) (by omega) (by show t.jD+1+max (0+y.jD) 0<=_;omega);refine⟨⟨(CB _ _ _ _ _ _ _),rfl,h,?_⟩,?_⟩
 .rw[e1];refine t2.append ?_;rw[e2];exact⟨(CB _ _ _ _ _ _ _),rfl,OQ,trivial⟩
 .show((⟨2,[a]⟩:I)::y.is++[(⟨0,[]⟩:I)]).foldl tJ _=_;rw[bZ,bP,e1,dV,e2];refine e3.trans ?_;have hmx:t.jD+1+max (0+y.jD) 0=t.jD+(1+y.jD):=by omega
  simp only[Fr.ifs,nk,nI,l9,aX,aA,aF,hsz,rQ,bP,eF,dV,bZ,hmx,iR,iE,tH];rw[show((s.length:Int)+((y.size:Int)+((1:Nat):Int)))=(s.length:Int)+(((1:Nat):Int)+(y.size:Int)) by omega]
  rfl
theorem ai2(p:Int)(s y:List St)(st:St)(bl:List Bk)(nd:Int)(lp:List Int)(sl n:Int)(hbl:bl≠[])(hst:st.op=2)(h1:0<=nd)(h2:nd+1<=40000040):tJ (Ld p (s++st::y) bl ⟨s.length,0,nd,0⟩ lp sl n) ⟨3,[]⟩=
 Ld (p+(enc ⟨3,[]⟩).length) (s++⟨st.op,st.a,st.b,st.c,st.d,st.depth,((s++st::y).length+1:Nat)⟩::(y++[zC 0])) bl ⟨s.length,((s++st::y).length:Nat),0,nd+1⟩ lp sl n:=by
 rw[Et];unfold lD;have hlen:¬((Ld (p+(enc ⟨3,[]⟩).length) (s++st::y) bl ⟨s.length,0,nd,0⟩ lp (slotsOf (Hx.shape 3) [] sl) n).jI.length=1\/0<(Ld (p+(enc ⟨3,[]⟩).length) (s++st::y) bl ⟨s.length,0,nd,0⟩ lp (slotsOf (Hx.shape 3) [] sl) n).top.other):=by
  rw[DY];have:0<bl.length:=List.length_pos_iff.2 hbl;simp[Ld];omega
 rw[jk (by show¬(3:Int)=2;omega),jk (by show¬(3:Int)=4;omega),jl (by rfl),jk hlen,DY];have hget:(s++st::y)[((s.length:Int)).toNat]? =some st:=by rw[bK];exact LU _ _ _
 show(match (s++st::y)[((s.length:Int)).toNat]?with|none=>_|some sp=>_)=_;rw[hget];simp only;rw[jl hst];unfold Ea;have ha:=G8 (p+(enc ⟨3,[]⟩).length) (s++st::y) bl ⟨s.length,0,nd,0⟩ lp sl n (zC 0) h1 h2;show FP (mF (Ld (p+(enc ⟨3,[]⟩).length) (s++st::y) bl ⟨s.length,0,nd,0⟩ lp sl n) (zC 0)) _ _ st=_;rw[ha];unfold FP;rw[DY,KN];show Ld _ ((s++st::y++[zC 0]).set ((s.length:Int)).toNat _) _ _ _ _ _=_;rw[bK,bY,bZ,Rh];simp[Ld];omega
theorem ajf(p:Int)(s y z:List St)(st se:St)(bl:List Bk)(t:Bk)(nd bf:Int)(lp:List Int)(sl n:Int)(hst:st.op=2)(h0:0<=t.jD)(h1:0<=nd)(h2:t.jD+max nd bf<=40000040):tJ (Ld p (s++st::(y++se::z)) (bl++[t]) ⟨s.length,((s++st::y).length:Nat),nd,bf⟩ lp sl n) ⟨0,[]⟩=
 Ld (p+(enc ⟨0,[]⟩).length) (s++st::(y++⟨se.op,se.a,se.b,se.c,se.d,se.depth,((s++st::(y++se::z)).length:Nat)⟩::z)) bl ⟨t.opener,t.other,t.jD+max nd bf,t.before⟩ lp sl n:=by
 rw[Et];unfold lD;rw[jk (by show¬(0:Int)=2;omega),jk (by show¬(0:Int)=4;omega),jk (by show¬(0:Int)=3;omega),jl (by rfl),jk (by simp[Ld])];rw[DY,KN];have hget:(s++st::(y++se::z))[((s.length:Int)).toNat]? =some st:=by rw[bK];exact LU _ _ _
 have happ:s++st::(y++se::z)=(s++st::y)++se::z:=by simp
 have aki:(s++st::(y++se::z))[(((s++st::y).length:Nat):Int).toNat]? =some se:=by rw[bK,happ];exact LU _ _ _
 show(match (s++st::(y++se::z))[((s.length:Int)).toNat]?with|none=>_|some sp=>_)=_;rw[hget];simp only;rw[jk (by rw[hst];omega),jl (by simp;omega)];show(match (s++st::(y++se::z))[(((s++st::y).length:Nat):Int).toNat]?with|none=>_|some sr=>_)=_;rw[aki];simp only;unfold tu;have hc:=OL (p+(enc ⟨0,[]⟩).length) ((s++st::(y++se::z)).set (((s++st::y).length:Nat):Int).toNat ⟨se.op,se.a,se.b,se.c,se.d,se.depth,((s++st::(y++se::z)).length:Nat)⟩) bl t lp sl n (max nd bf) (by omega) h2;refine Eq.trans ?_ (hc.trans ?_)
 .rfl
 .rw[bK]
  conv=>lhs;rw[happ]
  rw[Rh];simp
def Fr.Es(a:Int)(y z:Fr):Fr:=⟨⟨2,[a]⟩::y.is++(⟨3,[]⟩::z.is++[⟨0,[]⟩]),1+max z.jD (y.jD+1),max y.deep z.deep,1+y.size+(1+z.size),λb lp=>tH a ((b+1+y.size+1:Nat):Int)::(y.jC (b+1) lp++zC ((b+1+y.size+1+z.size:Nat):Int)::z.jC (b+1+y.size+1) lp)⟩
theorem Fr.akS{a:Int}{y z:Fr}{x:Bool}(h:qN ⟨2,[a]⟩)(hy:y.Ok x)(hz:z.Ok x):(Fr.Es a y z).Ok x:=by
 have hn:=hy.jD;have hm:=hz.jD;refine⟨by show 0<=1+max z.jD (y.jD+1);omega,λb lp=>by simp[Fr.Es,hy.size,hz.size];omega,λp s bl t lp sl n h2 h3 h4 h5=>?_⟩;have h2:lp.length+max y.deep z.deep<=8:=h2;have h5:t.jD+(1+max z.jD (y.jD+1))<=40000040:=h5;have e1:=ad2 (a:=a) p s bl t lp sl n h4 (by omega);obtain⟨t2,e2⟩:=hy.load (p+(enc ⟨2,[a]⟩).length) (s++[tH a 0]) (bl++[⟨t.opener,t.other,t.jD+1,t.before⟩]) ⟨s.length,0,0,0⟩ lp (slotsOf (Hx.shape 2) [a] sl) n (by omega) h3 (aV 0) (by show 0+y.jD<=_;omega);have hsz:=hy.size (s.length+1) lp;have hl:(s++[tH a 0]).length=s.length+1:=by simp
 rw[hl,bY,fC]at e2;have e3:=ai2 (p+(enc ⟨2,[a]⟩).length+(jX y.is).length) s (y.jC (s.length+1) lp) (tH a 0) (bl++[⟨t.opener,t.other,t.jD+1,t.before⟩]) (0+y.jD) lp (rQ y.is (slotsOf (Hx.shape 2) [a] sl)) n (by simp) rfl (by omega) (by omega);obtain⟨t4,e4⟩:=hz.load (p+(enc ⟨2,[a]⟩).length+(jX y.is).length+(enc ⟨3,[]⟩).length) (s++tH a ((s++tH a 0::y.jC (s.length+1) lp).length+1:Nat)::(y.jC (s.length+1) lp++[zC 0])) (bl++[⟨t.opener,t.other,t.jD+1,t.before⟩]) ⟨s.length,((s++tH a 0::y.jC (s.length+1) lp).length:Nat),0,0+y.jD+1⟩ lp (rQ y.is (slotsOf (Hx.shape 2) [a] sl)) n (by omega) h3 (aV 0) (by show 0+z.jD<=_;omega);have hl2:(s++tH a 0::y.jC (s.length+1) lp).length=s.length+1+y.size:=by simp[hsz];omega
 have hl3:(s++tH a ((s++tH a 0::y.jC (s.length+1) lp).length+1:Nat)::(y.jC (s.length+1) lp++[zC 0])).length=s.length+1+y.size+1:=by simp[hsz];omega
 have hsz2:=hz.size (s.length+1+y.size+1) lp;rw[hl3]at e4;rw[hl2]at e3 e4 t4;have happ:(s++tH a ((s.length+1+y.size+1:Nat):Int)::(y.jC (s.length+1) lp++[zC 0]))++z.jC (s.length+1+y.size+1) lp=s++tH a ((s.length+1+y.size+1:Nat):Int)::(y.jC (s.length+1) lp++zC 0::z.jC (s.length+1+y.size+1) lp):=by simp
 rw[happ]at e4;have e5:=ajf (p+(enc ⟨2,[a]⟩).length+(jX y.is).length+(enc ⟨3,[]⟩).length+(jX z.is).length) s (y.jC (s.length+1) lp) (z.jC (s.length+1+y.size+1) lp) (tH a ((s.length+1+y.size+1:Nat):Int)) (zC 0) bl ⟨t.opener,t.other,t.jD+1,t.before⟩ (0+z.jD) (0+y.jD+1) lp (rQ z.is (rQ y.is (slotsOf (Hx.shape 2) [a] sl))) n rfl (by show 0<=t.jD+1;omega) (by omega) (by show t.jD+1+max (0+z.jD) (0+y.jD+1)<=_;omega);have hl4:(s++tH a ((s.length+1+y.size+1:Nat):Int)::y.jC (s.length+1) lp).length=s.length+1+y.size:=by simp[hsz];omega
 rw[hl4]at e5;refine⟨⟨(CB _ _ _ _ _ _ _),rfl,h,?_⟩,?_⟩
 .rw[e1];refine t2.append ?_;rw[e2];refine⟨(CB _ _ _ _ _ _ _),rfl,ajb,?_⟩;rw[e3];refine t4.append ?_;have e4':=e4;rw[show(z.is.foldl tJ _)=_ from e4'];exact⟨(CB _ _ _ _ _ _ _),rfl,OQ,trivial⟩
 .show((⟨2,[a]⟩:I)::y.is++((⟨3,[]⟩:I)::z.is++[(⟨0,[]⟩:I)])).foldl tJ _=_;rw[bZ,bP,e1,dV,e2,bZ,bP,e3,dV];refine(congrArg (λq=>[(⟨0,[]⟩:I)].foldl tJ q) e4).trans (e5.trans ?_);have hmx:t.jD+1+max (0+z.jD) (0+y.jD+1)=t.jD+(1+max z.jD (y.jD+1)):=by omega
  have hl5:(s++tH a ((s.length+1+y.size+1:Nat):Int)::(y.jC (s.length+1) lp++zC 0::z.jC (s.length+1+y.size+1) lp)).length=s.length+1+y.size+1+z.size:=by simp[hsz,hsz2];omega
  rw[hl5,hmx];simp only[Fr.Es,nk,nI,l9,aX,aA,rQ,bP,eF,dV,bZ,iR,iE,zC]
  rfl
theorem amK{list a b:Int}(p:Int)(s:List St)(bl:List Bk)(t:Bk)(lp:List Int)(sl n:Int)(hd:lp.length<8)(h4:0<=t.jD)(h5:t.jD+1<=40000040):tJ (Ld p s bl t lp sl n) ⟨4,[list,a,b]⟩=
 Ld (p+(enc ⟨4,[list,a,b]⟩).length) (s++[mg list a b lp.length 0]) (bl++[⟨t.opener,t.other,t.jD+1,t.before⟩]) ⟨s.length,0,0,0⟩ (lp++[(s.length:Int)]) (slotsOf (Hx.shape 4) [list,a,b] sl) n:=by
 rw[Et];unfold lD;rw[jk (by show¬(4:Int)=2;omega),jl (by rfl),jk (by show¬lp.length=8;omega)];unfold Ic wZ;have ha:=G8 (p+(enc ⟨4,[list,a,b]⟩).length) s bl t lp (slotsOf (Hx.shape 4) [list,a,b] sl) n (mg list a b lp.length 0) h4 h5;show({({mF (Ld (p+(enc ⟨4,[list,a,b]⟩).length) s bl t lp (slotsOf (Hx.shape 4) [list,a,b] sl) n) (mg list a b lp.length 0)with jI:=(mF (Ld (p+(enc ⟨4,[list,a,b]⟩).length) s bl t lp (slotsOf (Hx.shape 4) [list,a,b] sl) n) (mg list a b lp.length 0)).jI++[⟨s.length,0,0,0⟩]}:Ls)with jY:=lp++[(s.length:Int)]}:Ls)=_;rw[ha]
 rfl
theorem ajk(p:Int)(s y:List St)(st:St)(bl:List Bk)(t:Bk)(nd:Int)(lp:List Int)(sl n:Int)(hst:st.op=4)(h0:0<=t.jD)(h1:0<=nd)(hls:0<=Hx.kQ st.a * (nd+1))(hn1:nd+1<=40000040)(h2:t.jD+Hx.kQ st.a * (nd+1)<=40000040):tJ (Ld p (s++st::y) (bl++[t]) ⟨s.length,0,nd,0⟩ (lp++[(s.length:Int)]) sl n) ⟨0,[]⟩=
 Ld (p+(enc ⟨0,[]⟩).length) (s++⟨st.op,st.a,st.b,st.c,st.d,st.depth,((s++st::y).length+1:Nat)⟩::(y++[Ed s.length])) bl ⟨t.opener,t.other,t.jD+Hx.kQ st.a * (nd+1),t.before⟩ lp sl n:=by
 rw[Et];unfold lD;rw[jk (by show¬(0:Int)=2;omega),jk (by show¬(0:Int)=4;omega),jk (by show¬(0:Int)=3;omega),jl (by rfl),jk (by simp[Ld]),DY];have hget:(s++st::y)[((s.length:Int)).toNat]? =some st:=by rw[bK];exact LU _ _ _
 show(match (s++st::y)[((s.length:Int)).toNat]?with|none=>_|some sp=>_)=_;rw[hget];simp only;rw[jl hst];unfold zY;have ha:=G8 (p+(enc ⟨0,[]⟩).length) (s++st::y) (bl++[t]) ⟨s.length,0,nd,0⟩ (lp++[(s.length:Int)]) sl n (Ed s.length) h1 hn1;show FQ (mF (Ld (p+(enc ⟨0,[]⟩).length) (s++st::y) (bl++[t]) ⟨s.length,0,nd,0⟩ (lp++[(s.length:Int)]) sl n) (Ed ((s.length:Int).toNat))) ((s.length:Int).toNat) st=_;rw[bK,ha];unfold FQ;rw[DY,KN];have hw:wrap64 (Hx.kQ st.a * (nd+1))=Hx.kQ st.a * (nd+1):=by unfold wrap64;omega
 have hc:=OL (p+(enc ⟨0,[]⟩).length) ((s++st::y++[Ed s.length]).set s.length ⟨st.op,st.a,st.b,st.c,st.d,st.depth,((s++st::y++[Ed s.length]).length:Nat)⟩) bl t lp sl n (Hx.kQ st.a * (nd+1)) (by omega) h2;have hl:(lp++[(s.length:Int)]).dropLast=lp:=by simp
 have e:=hl;show Hx.Ls.count ⟨p+(enc ⟨0,[]⟩).length,(s++st::y++[Ed s.length]).set s.length _,bl++[t],(lp++[(s.length:Int)]).dropLast,sl,n,false⟩ (wrap64 (Hx.kQ st.a * (nd+1)))=_;rw[hw,hl];refine hc.trans ?_;rw[bY,bZ,Rh];simp[Ld];omega
def Fr.loop(list a b:Int)(y:Fr):Fr:=⟨⟨4,[list,a,b]⟩::y.is++[⟨0,[]⟩],1+Hx.kQ list * (y.jD+1),y.deep+1,1+y.size+1,λk lp=>mg list a b lp.length ((k+1+y.size+1:Nat):Int)::(y.jC (k+1) (lp++[(k:Int)])++[Ed k])⟩
theorem Jy(list:Int):8<=Hx.kQ list/\Hx.kQ list<=16:=by unfold Hx.kQ;split<;>omega
theorem amd(list k:Int)(h:0<=k):8 * k<=Hx.kQ list * k:=by unfold Hx.kQ;split<;>omega
theorem Fr.acY{list a b:Int}{y:Fr}{x:Bool}(h:qN ⟨4,[list,a,b]⟩)(hy:y.Ok true):(Fr.loop list a b y).Ok x:=by
 have hn:=hy.jD;have hls:=amd list (y.jD+1) (by omega);refine⟨by show 0<=1+Hx.kQ list * (y.jD+1);omega,λk lp=>by simp[Fr.loop,hy.size];omega,λp s bl t lp sl n h2 h3 h4 h5=>?_⟩;have h2:lp.length+(y.deep+1)<=8:=h2;have h5:t.jD+(1+Hx.kQ list * (y.jD+1))<=40000040:=h5;have e1:=amK (list:=list) (a:=a) (b:=b) p s bl t lp sl n (by omega) h4 (by omega);obtain⟨t2,e2⟩:=hy.load (p+(enc ⟨4,[list,a,b]⟩).length) (s++[mg list a b lp.length 0]) (bl++[⟨t.opener,t.other,t.jD+1,t.before⟩]) ⟨s.length,0,0,0⟩ (lp++[(s.length:Int)]) (slotsOf (Hx.shape 4) [list,a,b] sl) n (by simp;omega) (by simp) (aV 0) (by show 0+y.jD<=_;omega);have hsz:=hy.size (s.length+1) (lp++[(s.length:Int)]);have hl:(s++[mg list a b lp.length 0]).length=s.length+1:=by simp
 rw[hl,bY,fC]at e2;have e3:=ajk (p+(enc ⟨4,[list,a,b]⟩).length+(jX y.is).length) s (y.jC (s.length+1) (lp++[(s.length:Int)])) (mg list a b lp.length 0) bl ⟨t.opener,t.other,t.jD+1,t.before⟩ (0+y.jD) lp (rQ y.is (slotsOf (Hx.shape 4) [list,a,b] sl)) n rfl (by show 0<=t.jD+1;omega) (by omega) (by show 0<=Hx.kQ list * (0+y.jD+1);rw[Int.zero_add];omega) (by omega) (by show t.jD+1+Hx.kQ list * (0+y.jD+1)<=_;rw[Int.zero_add];omega);refine⟨⟨(CB _ _ _ _ _ _ _),rfl,h,?_⟩,?_⟩
 .rw[e1];refine t2.append ?_;rw[e2];exact⟨(CB _ _ _ _ _ _ _),rfl,OQ,trivial⟩
 .show((⟨4,[list,a,b]⟩:I)::y.is++[(⟨0,[]⟩:I)]).foldl tJ _=_;rw[bZ,bP,e1,dV,e2];refine e3.trans ?_;have hl2:(s++mg list a b lp.length 0::y.jC (s.length+1) (lp++[(s.length:Int)])).length+1=s.length+1+y.size+1:=by simp[hsz];omega
  have hmx:t.jD+1+Hx.kQ list * (0+y.jD+1)=t.jD+(1+Hx.kQ list * (y.jD+1)):=by rw[Int.zero_add];omega
  rw[hl2];show Ld _ _ bl ⟨t.opener,t.other,t.jD+1+Hx.kQ list * (0+y.jD+1),t.before⟩ _ _ _=_;rw[hmx];simp only[Fr.loop,nk,nI,l9,aX,aA,rQ,bP,eF,dV,bZ,iR,iE,mg]
  rfl
theorem amu{fr:Fr}(h:fr.Ok false)(hn:fr.jD+1<=40000040)(hd:fr.deep<=8)(hl:(jX (fr.is++[⟨0,[]⟩])).length<=100000):
 vX (Hx.bytes (jX (fr.is++[⟨0,[]⟩])))=true/\(lX (Hx.bytes (jX (fr.is++[⟨0,[]⟩])))).jC=fr.jC 0 []++[⟨1,0,0,0,0,0,0⟩]/\(lX (Hx.bytes (jX (fr.is++[⟨0,[]⟩])))).jE=rQ fr.is 8/\(lX (Hx.bytes (jX (fr.is++[⟨0,[]⟩])))).jD=fr.jD+1:=by
 have hnn:=h.jD;obtain⟨t1,e1⟩:=h.load 0 [] [] ⟨0,0,0,0⟩ [] 8 0 (by simpa using hd) (by simp) (aV 0) (by show 0+fr.jD<=_;omega);have hfirst:tC=Ld 0 [] [] ⟨0,0,0,0⟩ [] 8 0:=rfl;rw[<-hfirst]at t1 e1;have hend:tJ (Ld (0+(jX fr.is).length) ([]++fr.jC 0 []) [] ⟨0,0,0+fr.jD,0⟩ [] (rQ fr.is 8) 0) ⟨0,[]⟩=⟨0+(jX fr.is).length+(enc ⟨0,[]⟩).length,fr.jC 0 []++[⟨1,0,0,0,0,0,0⟩],[],[],rQ fr.is 8,fr.jD+1,false⟩:=by
  rw[Et];unfold lD;rw[jk (by show¬(0:Int)=2;omega),jk (by show¬(0:Int)=4;omega),jk (by show¬(0:Int)=3;omega),jl (by rfl),jl (by simp[Ld])];unfold zX;rw[G8 _ _ _ _ _ _ _ _ (by show 0<=0+fr.jD;omega) (by show 0+fr.jD+1<=_;omega),DY];simp[Ld,slotsOf,Hx.shape]
 have ht:D5 (fr.is++[⟨0,[]⟩]) tC:=t1.append (by rw[e1];exact⟨(CB _ _ _ _ _ _ _),rfl,OQ,trivial⟩);have hst:xC (Hx.bytes (jX (fr.is++[⟨0,[]⟩]))) tC.pos.toNat (jX (fr.is++[⟨0,[]⟩])):=⟨[],by simp[tC]⟩;have hlen:(fr.is++[(⟨0,[]⟩:I)]).length<=(Hx.bytes (jX (fr.is++[⟨0,[]⟩]))).length:=by
  rw[Lj];have:∀is:List I,is.length<=(jX is).length:=by
   intro is;induction is with
   |nil=>simp
   |cons i is ih=>
    rw[nk,aA,aF];have:0<(enc i).length:=by simp[enc]
    omega
  exact this _
 have hgo:lX (Hx.bytes (jX (fr.is++[⟨0,[]⟩])))=⟨0+(jX fr.is).length+(enc ⟨0,[]⟩).length,fr.jC 0 []++[⟨1,0,0,0,0,0,0⟩],[],[],rQ fr.is 8,fr.jD+1,false⟩:=by
  unfold lX;obtain⟨f,hf⟩:∃f,(Hx.bytes (jX (fr.is++[⟨0,[]⟩]))).length+1=(f+1)+(fr.is++[(⟨0,[]⟩:I)]).length:=⟨(Hx.bytes (jX (fr.is++[⟨0,[]⟩]))).length-(fr.is++[(⟨0,[]⟩:I)]).length,by omega⟩;rw[hf,acR _ _ _ (aV 0) ht hst,dV,e1];refine(congrArg (λq=>uV (Hx.bytes (jX (fr.is++[⟨0,[]⟩]))) (f+1) q) hend).trans ?_;unfold uV;rw[jl (ji rfl)]
 rw[hgo];refine⟨?_,rfl,rfl,rfl⟩;unfold vX;rw[hgo,Lj];simp only[Bool.not_false,Bool.and_true,dD,decide_eq_true_eq];refine⟨hl,?_⟩;rw[nI,aA,nk,l9,aX,Int.zero_add,iE]
section
variable {v:Vw}{S:List St}{jG:List Int}{k k' k2:Nat}{m m' m2:Mc}{o:Out}
def Reaches(v:Vw)(S:List St)(jG:List Int)(k:Nat)(m:Mc)(k':Nat)(m':Mc):Prop:=∃n,∀f,Hx.runs v S jG (f+n) k m=Hx.runs v S jG f k' m'
def Bh(v:Vw)(S:List St)(jG:List Int)(k:Nat)(m:Mc)(o:Out):Prop:=∃n,∀f,Hx.runs v S jG (f+n) k m=o
theorem Reaches.refl(v:Vw)(S:List St)(jG:List Int)(k:Nat)(m:Mc):Reaches v S jG k m k m:=⟨0,λ_=>rfl⟩
theorem Reaches.trans(h:Reaches v S jG k m k' m')(h2:Reaches v S jG k' m' k2 m2):Reaches v S jG k m k2 m2:=by
 obtain⟨a,ha⟩:=h;obtain⟨b,hb⟩:=h2;exact⟨b+a,λf=>by rw[<-fE,ha,hb]⟩
theorem Reaches.stops(h:Reaches v S jG k m k' m')(h2:Bh v S jG k' m' o):Bh v S jG k m o:=by
 obtain⟨a,ha⟩:=h;obtain⟨b,hb⟩:=h2;exact⟨b+a,λf=>by rw[<-fE,ha,hb]⟩
theorem Ac{s:St}(hs:S[k]? =some s)(h:Hx.step v S jG k s m=.inr ((k':Int),m')):Reaches v S jG k m k' m':=
 ⟨1,λf=>by simp only[Hx.runs,bK,hs,h]⟩
theorem WL{s:St}(hs:S[k]? =some s)(h:Hx.step v S jG k s m=.inl o):Bh v S jG k m o:=
 ⟨1,λf=>by simp only[Hx.runs,bK,hs,h]⟩
def sK(S:List St)(k:Nat)(xs:List St):Prop:=∀(j:Nat)(s:St),xs[j]? =some s->S[k+j]? =some s
theorem sK.left{xs ys:List St}(h:sK S k (xs++ys)):sK S k xs:=λj s hj=>h j s (by rw[aT (List.getElem?_eq_some_iff.1 hj).1];exact hj)
theorem sK.right{xs ys:List St}{n:Nat}(h:sK S k (xs++ys))(hn:xs.length=n):sK S (k+n) ys:=λj s hj=>by
 rw[fE];exact h (n+j) s (by rw[<-hn,bW (by omega),Nat.add_sub_cancel_left];exact hj)
theorem sK.head{x:St}{xs:List St}(h:sK S k (x::xs)):S[k]? =some x:=h 0 x rfl
theorem sK.tail{x:St}{xs:List St}(h:sK S k (x::xs)):sK S (k+1) xs:=λj s hj=>by
 rw[fE];exact h (1+j) s (by rw[Nat.add_comm 1 j];exact hj)
theorem Du(m:Mc)(i x:Int):(m.put i x).jE.length=m.jE.length:=by simp[Mc.put]
theorem aez(m:Mc)(i x:Int):(m.lU i x).left.length=m.left.length:=by simp[Mc.lU]
theorem vG(m:Mc)(i x:Int)(h0:0<=i)(h1:i<m.jE.length):(m.put i x).get i=x:=by
 have:i.toNat<m.jE.length:=by omega
 simp[Mc.put,Mc.get,this]
theorem BD(m:Mc)(i j x:Int)(h0:0<=i)(h1:0<=j)(h:i≠j):(m.put j x).get i=m.get i:=by
 have:j.toNat≠i.toNat:=by omega
 simp[Mc.put,Mc.get,aU,dQ this]
theorem Qb(m:Mc)(i:Nat)(x:Int)(h:i<m.left.length):(m.lU (i:Int) x).mV i=x:=by simp[Mc.lU,Mc.mV,h]
theorem Qa(m:Mc)(i j:Nat)(x:Int)(h:i≠j):(m.lU (j:Int) x).mV i=m.mV i:=by
 simp[Mc.lU,Mc.mV,aU,dQ (λe=>h e.symm)]
structure oC(free into:Int)(d:Nat)(m m':Mc):Prop where
 len:m'.jE.length=m.jE.length
 uU:m'.left.length=m.left.length
 jP:m'.jP=m.jP
 jE:∀i,0<=i->i<free->i≠into->m'.get i=m.get i
 left:∀j:Nat,j<d->m'.mV j=m.mV j
theorem oC.refl(free into:Int)(d:Nat)(m:Mc):oC free into d m m:=⟨rfl,rfl,rfl,λ_ _ _ _=>rfl,λ_ _=>rfl⟩
theorem oC.trans{free into:Int}{d:Nat}(h:oC free into d m m')(h2:oC free into d m' m2):oC free into d m m2:=
 ⟨h2.len.trans h.len,h2.uU.trans h.uU,h2.jP.trans h.jP,λi a b c=>(h2.jE i a b c).trans (h.jE i a b c),λj hj=>(h2.left j hj).trans (h.left j hj)⟩
theorem oC.less{free free' into ab8:Int}{d d':Nat}(h:oC free into d m m')(h1:free'<=free)(h2:into=ab8\/into<0\/free'<=into)(h3:d'<=d):oC free' ab8 d' m m':=
 ⟨h.len,h.uU,h.jP,λi a b c=>h.jE i a (by omega) (by omega),λj hj=>h.left j (by omega)⟩
theorem xO{free into j x:Int}{d:Nat}(h:j=into\/free<=j)(h0:0<=j):oC free into d m (m.put j x):=
 ⟨Du _ _ _,rfl,rfl,λi a b c=>BD m i j x a h0 (by omega),λ_ _=>rfl⟩
theorem yh{i:I}(hs:S[k]? =some (stepOf i))(h6:6<=i.o)(Ht:i.o≠36):Reaches v S jG k m (k+1) (work v (stepOf i) m):=by
 refine Ac hs ?_;unfold Hx.step;rw[jk (by show¬i.o=1;omega),jk (by show¬i.o=2;omega),jk (by show¬i.o=3;omega),jk (by show¬i.o=4;omega),jk (by show¬i.o=5;omega),jk (by show¬i.o=0;omega),jk (by exact Ht)]
 rfl
def Fj:List UInt8->List Int->Int->Prop
 |c::cs,n::ns,b=>(c=115->n+1<=b)/\Fj cs ns b
 |_,_,_=>True
def kY(is:List I)(b:Int):Prop:=∀i∈is,Fj (Hx.shape i.o) i.ns b
theorem Ie:∀{cs:List UInt8}{ns:List Int}{b b':Int},Fj cs ns b->b<=b'->Fj cs ns b'
 |[],_,_,_,_,_=>trivial
 |_::_,[],_,_,_,_=>trivial
 |_::_,_::_,_,_,⟨h1,h2⟩,hb=>⟨λe=>fD (h1 e) hb,Ie h2 hb⟩
theorem Vm:∀{cs:List UInt8}{ns:List Int}{b:Int},(∀n∈ns,n+1<=b)->Fj cs ns b
 |[],_,_,_=>trivial
 |_::_,[],_,_=>trivial
 |_::_,_::_,_,h=>⟨λ_=>h _ (aW ..),Vm λx hx=>h x (aI _ hx)⟩
theorem aft:∀{cs:List UInt8}{ns:List Int}{sl b:Int},Fj cs ns b->sl<=b->slotsOf cs ns sl<=b
 |[],_,_,_,_,h=>h
 |_::_,[],_,_,_,h=>h
 |c::cs,n::ns,sl,b,⟨h1,h2⟩,h=>by
  unfold slotsOf;refine aft h2 ?_;by_cases hc:c=115
  .rw[jl hc];have:=h1 hc;omega
  .rw[jk hc];exact h
theorem kY.nil(b:Int):kY [] b:=λ_ h=>jq h (by simp)
theorem kY.append{a c:List I}{b:Int}(h:kY a b)(k:kY c b):kY (a++c) b:=λi hi=>(List.mem_append.1 hi).elim (h i) (k i)
theorem kY.wide{a:List I}{b b':Int}(h:kY a b)(hb:b<=b'):kY a b':=λi hi=>Ie (h i hi) hb
theorem kY.one{i:I}{b:Int}(h:Fj (Hx.shape i.o) i.ns b):kY [i] b:=λj hj=>by rw[cO.1 hj];exact h
theorem kY.all:∀{is:List I}{sl b:Int},kY is b->sl<=b->rQ is sl<=b
 |[],_,_,_,h=>h
 |i::is,_,_,hl,h=>kY.all (is:=is) (λj hj=>hl j (aI _ hj)) (aft (hl i (aW ..)) h)
theorem WI:∀(cs:List UInt8)(ns:List Int)(sl:Int),sl<=slotsOf cs ns sl
 |[],_,_=>aV _
 |_::_,[],_=>aV _
 |c::cs,n::ns,sl=>by
  unfold slotsOf;refine fD ?_ (WI cs ns _);split<;>omega
theorem WH:∀(is:List I)(sl:Int),sl<=rQ is sl
 |[],_=>aV _
 |_::is,_=>fD (WI _ _ _) (WH is _)
theorem ac0:∀(cs:List UInt8)(ns:List Int)(sl:Int),Fj cs ns (slotsOf cs ns sl)
 |[],_,_=>trivial
 |_::_,[],_=>trivial
 |c::cs,n::ns,sl=>by
  unfold slotsOf;refine⟨λe=>?_,ac0 cs ns _⟩;have:=WI cs ns (if c=115 then max sl (n+1)else sl);rw[jl e]at this⊢;omega
theorem ac1:∀(is:List I)(sl:Int),kY is (rQ is sl)
 |[],_=>kY.nil _
 |i::is,sl=>by
  intro j hj;rcases dh.1 hj with rfl|hj
  .exact Ie (ac0 _ _ sl) (WH is _)
  .exact ac1 is _ j hj
theorem kY.left{a c:List I}{b:Int}(h:kY (a++c) b):kY a b:=λi hi=>h i (eP _ hi)
theorem kY.right{a c:List I}{b:Int}(h:kY (a++c) b):kY c b:=λi hi=>h i (List.mem_append_right _ hi)
end
end
namespace Hx
open Go.RowKit
abbrev sJ:=jo->Nat->Nat->jr->Prop
structure Lawful(E:sJ):Prop where
 loc:∀w w' lo hi v,E w lo hi v->(∀b,lo<=b->b<hi->w'.heap[b]? =w.heap[b]?)->E w' lo hi v
 wide:∀w lo hi lo' hi' v,E w lo hi v->lo'<=lo->hi<=hi'->E w lo' hi' v
abbrev Kids:=jo->Nat->Nat->List jr->Prop
structure yI(K:Kids):Prop where
 loc:∀w w' lo hi us,K w lo hi us->(∀b,lo<=b->b<hi->w'.heap[b]? =w.heap[b]?)->K w' lo hi us
 wide:∀w lo hi lo' hi' us,K w lo hi us->lo'<=lo->hi<=hi'->K w lo' hi' us
def yY:Kids:=λ_ _ _ us=>us=[]
def nX(E:sJ):Kids:=λw lo hi us=>∃u,us=[u]/\E w lo hi u
def xH(E F:sJ):Kids:=λw lo hi us=>∃m u v,us=[u,v]/\lo<=m/\m<=hi/\E w lo m u/\F w m hi v
theorem BM:yI yY:=⟨λ_ _ _ _ _ h _=>h,λ_ _ _ _ _ _ h _ _=>h⟩
theorem qO{E:sJ}(h:Lawful E):yI (nX E):=
 ⟨λ_ _ _ _ _ ⟨u,e,hu⟩ hk=>⟨u,e,h.loc _ _ _ _ _ hu hk⟩,λ_ _ _ _ _ _ ⟨u,e,hu⟩ h1 h2=>⟨u,e,h.wide _ _ _ _ _ _ hu h1 h2⟩⟩
theorem wC{E F:sJ}(h:Lawful E)(k:Lawful F):yI (xH E F):=
 ⟨λ_ _ _ _ _ ⟨m,u,v,e,h1,h2,hu,hv⟩ hk=>⟨m,u,v,e,h1,h2,h.loc _ _ _ _ _ hu (λb b1 b2=>hk b b1 (by omega)),k.loc _ _ _ _ _ hv (λb b1 b2=>hk b (by omega) b2)⟩,
  λ_ _ _ _ _ _ ⟨m,u,v,e,h1,h2,hu,hv⟩ l1 l2=>⟨m,u,v,e,by omega,by omega,h.wide _ _ _ _ _ _ hu l1 (aj _),k.wide _ _ _ _ _ _ hv (aj _) l2⟩⟩
structure Ex where
 at':Int
 jy:Int
 here:Int->sJ
 does:Dn
end Hx
section
open Go.RowKit Hx
attribute [local go_sem ↓] Go.wp_at_zero Go.wp_at_succ
attribute [local go_sem] kL
def lM(T:jv):Prop:=T∈[405,392,386,389,395,379,374,383,398,410,413]
theorem lM.rP{T:jv}(h:lM T)(A:Nat)(w:jo):(method 576 T (Pt A 0) "helm/lang.price").run prog w=.ok (244,Pt A 0) w:=by
 simp only[lM,dh,dU,or_false]at h;rcases h with rfl|rfl|rfl|rfl|rfl|rfl|rfl|rfl|rfl|rfl|rfl<;>kernel_rfl
theorem lM.widen{T:jv}(h:lM T)(A:Nat)(w:jo):(method 576 T (Pt A 0) "helm/lang.widen").run prog w=.ok (357,Pt A 0) w:=by
 simp only[lM,dh,dU,or_false]at h;rcases h with rfl|rfl|rfl|rfl|rfl|rfl|rfl|rfl|rfl|rfl|rfl<;>kernel_rfl
theorem lM.sort{T:jv}(h:lM T)(A:Nat)(w:jo):(method 576 T (Pt A 0) "helm/lang.sort").run prog w=.ok (356,Pt A 0) w:=by
 simp only[lM,dh,dU,or_false]at h;rcases h with rfl|rfl|rfl|rfl|rfl|rfl|rfl|rfl|rfl|rfl|rfl<;>kernel_rfl
theorem lM.place{T:jv}(h:lM T)(A:Nat)(w:jo):(method 576 T (Pt A 0) "helm/lang.place").run prog w=.ok (312,Pt A 0) w:=by
 simp only[lM,dh,dU,or_false]at h;rcases h with rfl|rfl|rfl|rfl|rfl|rfl|rfl|rfl|rfl|rfl|rfl<;>kernel_rfl
structure kV(e:Ex):Prop where
 law:∀a,Lawful (e.here a)
 head:∀a w lo hi v,e.here a w lo hi v->∃T b,v=.iface T (Pt b 0)/\lM T/\lo<=b/\b<hi/\w.cell? (Ad b 0)=some (Im a)/\w.cell? (Ad b 1)=some (Im e.jy)/\∀j,w.frozen? (Ad b j)=false
 widen:∀a a' w lo hi T b,e.here a w lo hi (.iface T (Pt b 0))->e.here a' (w.setCell (Ad b 0) (Im a')) lo hi (.iface T (Pt b 0))
 jy:0<=e.jy/\e.jy<=1000001
def qZ(T' T:jv)(at' jy kind:Int)(K:Hx.Kids)(mk:List jr->List jr)(dn:Dn:={}):Ex:=
 ⟨at',jy,λa w lo hi v=>∃b us,v=.iface T' (Pt b 0)/\lo<=b/\b<hi/\K w lo b us/\w.heap[b]? =some (.cells (Im a::Im jy::Im kind::mk us).toArray T),dn⟩
theorem vP{T' T:jv}{at' jy kind:Int}{K:Hx.Kids}{mk:List jr->List jr}{dn:Dn}(hT:lM T')(hK:yI K)(hc:0<=jy/\jy<=1000001):kV (qZ T' T at' jy kind K mk dn):=by
 refine⟨λa=>⟨?_,?_⟩,?_,?_,hc⟩
 .rintro w w' lo hi v ⟨b,us,hv,h1,h2,h3,h4⟩ hk;exact⟨b,us,hv,h1,h2,hK.loc _ _ _ _ _ h3 (λb' b1 b2=>hk b' b1 (by omega)),(hk b h1 h2).trans h4⟩
 .rintro w lo hi lo' hi' v ⟨b,us,hv,h1,h2,h3,h4⟩ l1 l2;exact⟨b,us,hv,by omega,by omega,hK.wide _ _ _ _ _ _ h3 l1 (aj _),h4⟩
 .rintro a w lo hi v ⟨b,us,hv,h1,h2,h3,h4⟩;exact⟨T',b,hv,hT,h1,h2,jH h4,jH h4,λj=>oh h4⟩
 .rintro a a' w lo hi T1 b1 ⟨b,us,hv,h1,h2,h3,h4⟩;cases hv;refine⟨b1,us,rfl,h1,h2,hK.loc _ _ _ _ _ h3 (λb' _ b2=>bC _ _ _ _ (by simp only;omega)),?_⟩;exact aK _ _ _ _ _ _ h4
end
namespace Hx
open Go.RowKit
structure Sx where
 at':Int
 jy:Int
 base:jm
 of:Int
 jF:List (Wd×Ex)
def Ov(d:Wd)(v:jr):List jr:=[.string d.text,Im d.at',v]
def uP(g:Nat):List (Wd×Ex)->jo->Nat->Nat->List jr->Prop
 |[],_,_,_,us=>us=[]
 |b::bs,w,lo,hi,us=>∃l m u us',us=u::us'/\lo<=l/\l<=m/\m<=hi/\(g<l\/m<=g)/\b.2.here b.2.at' w l m u/\uP g bs w m hi us'
def wS:List (Wd×Ex)->List jr->List jr
 |b::bs,u::us=>Ov b.1 u++wS bs us
 |_,_=>[]
def apW(T:jv)(x:Sx)(S:Nat)(w:jo)(lo hi:Nat)(fv:jr):Prop:=
 (x.jF=[]/\fv=Nl)\/
 ∃g cap m us arr,fv=.slice (some (Ad g 0)) x.jF.length cap/\S<g/\g<hi/\lo<=m/\S<m/\uP g x.jF w m hi us/\w.heap[g]? =some (.cells arr T)/\
  ∀(j:Nat)(v:jr),(wS x.jF us)[j]? =some v->arr[j]? =some v
def ae9(T T2:jv)(x:Sx):sJ:=λw lo hi v=>
 ∃S fv,v=Pt S 0/\lo<=S/\S<hi/\w.heap[S]? =some (.cells #[Im x.at',Im x.jy,.string x.base,Im x.of,fv] T)/\apW T2 x S w lo hi fv
theorem FI{g:Nat}:∀{bs:List (Wd×Ex)}{w w':jo}{lo hi:Nat}{us:List jr},(∀b∈bs,∀a,Lawful (b.2.here a))->uP g bs w lo hi us->(∀b,lo<=b->b<hi->w'.heap[b]? =w.heap[b]?)->uP g bs w' lo hi us
 |[],_,_,_,_,_,_,h,_=>h
 |b::bs,_,_,_,_,_,hl,⟨l,m,u,us',h0,h1,h2,h3,h4,h5,h6⟩,hk=>
  ⟨l,m,u,us',h0,h1,h2,h3,h4,(hl b (aW ..) _).loc _ _ _ _ _ h5 (λk k1 k2=>hk k (by omega) (by omega)),FI (λc hc=>hl c (aI _ hc)) h6 (λk k1 k2=>hk k (by omega) k2)⟩
theorem OB{g:Nat}:∀{bs:List (Wd×Ex)}{w:jo}{lo hi hi':Nat}{us:List jr},uP g bs w lo hi us->hi<=hi'->uP g bs w lo hi' us
 |[],_,_,_,_,_,h,_=>h
 |_::_,_,_,_,_,_,⟨l,m,u,us',h0,h1,h2,h3,h4,h5,h6⟩,hh=>⟨l,m,u,us',h0,h1,h2,by omega,h4,h5,OB h6 hh⟩
theorem Z4{g:Nat}:∀{bs:List (Wd×Ex)}{w:jo}{lo l m hi:Nat}{us:List jr}{b:Wd×Ex}{u:jr},uP g bs w lo l us->b.2.here b.2.at' w l m u->lo<=l->l<=m->m<=hi->(g<l\/m<=g)->uP g (bs++[b]) w lo hi (us++[u])
 |[],_,_,l,m,_,us,b,u,h,hb,h1,h2,h3,hg=>by
  have h:us=[]:=h;subst h;exact⟨l,m,u,[],rfl,h1,h2,h3,hg,hb,rfl⟩
 |_::_,_,_,_,_,_,_,_,u,⟨l',m',v,us',h0,h1,h2,h3,h4,h5,h6⟩,hb,k1,k2,k3,hg=>by
  subst h0;exact⟨l',m',v,us'++[u],rfl,h1,h2,by omega,h4,h5,Z4 h6 hb h3 k2 k3 hg⟩
theorem ZY{g g':Nat}:∀{bs:List (Wd×Ex)}{w:jo}{lo hi:Nat}{us:List jr},uP g bs w lo hi us->hi<=g'->uP g' bs w lo hi us
 |[],_,_,_,_,h,_=>h
 |_::_,_,_,_,_,⟨l,m,u,us',h0,h1,h2,h3,_,h5,h6⟩,hh=>⟨l,m,u,us',h0,h1,h2,h3,jh (by omega),h5,ZY h6 hh⟩
theorem NM{T T2:jv}{x:Sx}(hl:∀b∈x.jF,∀a,Lawful (b.2.here a)):Lawful (ae9 T T2 x):=by
 constructor
 .rintro w w' lo hi v ⟨S,fv,hv,h1,h2,h3,h4⟩ hk;refine⟨S,fv,hv,h1,h2,(hk S h1 h2).trans h3,?_⟩;rcases h4 with h4|⟨g,cap,m,us,arr,k1,k2,k3,k4,k5,k6,k7,k8⟩
  .exact ji h4
  .exact jh ⟨g,cap,m,us,arr,k1,k2,k3,k4,k5,FI hl k6 (λb b1 b2=>hk b (by omega) b2),(hk g (by omega) k3).trans k7,k8⟩
 .rintro w lo hi lo' hi' v ⟨S,fv,hv,h1,h2,h3,h4⟩ l1 l2;refine⟨S,fv,hv,by omega,by omega,h3,?_⟩;rcases h4 with h4|⟨g,cap,m,us,arr,k1,k2,k3,k4,k5,k6,k7,k8⟩
  .exact ji h4
  .exact jh ⟨g,cap,m,us,arr,k1,k2,by omega,by omega,k5,OB k6 l2,k7,k8⟩
end Hx
section
open Go.RowKit Hx
section
def oN(x:Sx):sJ:=ae9 348 361 x
def nM(of:Int)(fs:List (Wd×Ex))(c:Ck):Ck:=fs.foldl (λc b=>c.bracket b.1.text b.1.at' b.2.does b.2.at' of 2) c
def jQ(base:jm):Int:=if base.data.toList==[70,82,69,83,72]then 1 else if base.data.toList==[65,71,65,73,78]then 2 else 0
def Hx.Co.jF(one:Int)(fs:List (Wd×Ex))(c:Co):Co:=fs.foldl (λc b=>((c.inside b.1.text b.2.does one).1.lay 5 [(c.inside b.1.text b.2.does one).2]).jZ c.free) c
def Hx.Co.jW(c:Co)(list:Int)(fs:List (Wd×Ex)):Co×Int:=(Co.jF c.hold.2 fs ((c.hold.1.lay 21 [c.hold.2,list]).lay 4 [list,c.hold.2,c.hold.2]),c.hold.2)
def Hx.Co.mW(c:Co)(list:Int)(fs:List (Wd×Ex)):Co×Int:=
 if fs.length=0 then (c.hold.1.lay 21 [c.hold.2,list],c.hold.2)
 else
  let o:=(c.hold.1.lay 6 [c.hold.2,0]).jW list fs
  (((o.1.lay 22 [c.hold.2,o.2]).lay 0 []).jZ (wrap64 (c.hold.2+1)),c.hold.2)
def wH(n:Int)(c:Co)(into:Int):Co×Int:=((c.choose into).1.lay 6 [(c.choose into).2,n],(c.choose into).2)
def ES(b:Bool)(c:Co)(into:Int):Co×Int:=((c.choose into).1.lay 6 [(c.choose into).2,if b then 1 else 0],(c.choose into).2)
def rZ(kind is:Int):nY:=if kind=2 then {tag:=2,val:=if is=0 then 0 else 1,give:=ES (decide (is≠0))}else {tag:=1,val:=is,give:=wH is}
def Hx.nY.known(f:nY):Bool:=f.tag==1||f.tag==2
def Hx.nY.lI(f:nY)(b:Bool):Bool:=f.tag==2&&f.val==(if b then 1 else 0)
def tN(kind:Int)(sign:jm)(f:nY):nY:=
 if f.tag=1 then rZ kind (wrap64 (-f.val))else if f.tag=2 then rZ kind (if f.val=0 then 1 else 0)
 else if f.tag=3 then {give:=f.sub}else {tag:=3,give:=λc into=>c.one (if sign.data.toList==[45]then 8 else 9) into f.dn,sub:=f.give}
def Gw(kind:Int)(sign:jm)(l r:nY):nY:=
 let o:=if sign.data.toList==[62]then 15 else if sign.data.toList==[62,61]then 16 else uZ sign.data.toList
 let sw:=sign.data.toList==[62]||sign.data.toList==[62,61]
 if l.known&&r.known then rZ kind (if sw then two o r.val l.val else two o l.val r.val)
 else if (o==19||o==20)&&(l.lI (o==20)||r.lI (o !=20))then l
 else if (o==19||o==20)&&(r.lI (o==20)||l.lI (o !=20))then r
 else {give:=λc into=>if sw then c.two o into r.dn l.dn else c.two o into l.dn r.dn}
def Hx.Sx.fold(x:Sx):List (Wd×Ex):=(x.jF.filter λb=>!(b.2.does.fd.lI true)).map λb=>(b.1,{b.2 with does:=b.2.does.fd.dn})
def adz(n:Int):Dn:=⟨λ_=>1,λc=>c,λc into=>((c.choose into).1.lay 6 [(c.choose into).2,n],(c.choose into).2),{tag:=1,val:=n,give:=wH n}⟩
def af8(kind:Int)(b:Bool):Dn:=⟨λ_=>kind,λc=>c,λc into=>((c.choose into).1.lay 6 [(c.choose into).2,if b then 1 else 0],(c.choose into).2),{tag:=2,val:=if b then 1 else 0,give:=ES b}⟩
def apD(i:Int):Dn:=⟨λ_=>1,λc=>c,λc _=>(c,i),{give:=λc _=>(c,i)}⟩
def arK(d:Wd):Dn:=⟨λns=>(lG ns d.text).kind,λc=>if (lG c.jA d.text).kind=0 then c.fail 2 d.at' else c,λc _=>(c,c.vW d.text),{give:=λc _=>(c,c.vW d.text)}⟩
def ach(e:Ex):Dn:=⟨λ_=>2,λc=>if e.does.jU c.jA=3 then e.does.look c else (e.does.look c).want (e.does.jU c.jA) e.at' 4,λc into=>c.one 27 into e.does,{give:=λc into=>c.one 27 into e.does.fd.dn}⟩
def adK(kind:Int)(sign:jm)(e:Ex):Dn:=⟨λ_=>kind,λc=>(e.does.look c).want (e.does.jU c.jA) e.at' kind,λc into=>c.one (if sign.data.toList==[45]then 8 else 9) into e.does,tN kind sign e.does.fd⟩
def qj(sign:jm)(left:Int):Int:=if (ni sign.data.toList).1=0 then (if left=2 then 2 else 1)else (ni sign.data.toList).1
def Xa(kind:Int)(sign:jm)(l r:Ex):Dn:=
 ⟨λ_=>kind,
  λc=>
   let side:=qj sign (l.does.jU c.jA)
   let c1:=(l.does.look c).want (l.does.jU c.jA) l.at' side
   (r.does.look c1).want (r.does.jU c1.jA) r.at' side,
  λc into=>if sign.data.toList==[62]then c.two 15 into r.does l.does else if sign.data.toList==[62,61]then c.two 16 into r.does l.does else c.two (uZ sign.data.toList) into l.does r.does,
  Gw kind sign l.does.fd r.does.fd⟩
def aem(kind owner:Int)(e:Ex)(d:Wd):Dn:=
 ⟨λ_=>kind,λc=>(if owner=0 then (e.does.look c).fail 2 d.at' else e.does.look c).want (e.does.jU c.jA) e.at' owner,λc into=>c.one (xM d.text.data.toList) into e.does,{give:=λc into=>c.one (xM d.text.data.toList) into e.does.fd.dn}⟩
def adF(l r:Ex):Dn:=
 ⟨λ_=>2,
  λc=>
   let c1:=(l.does.look c).want (l.does.jU c.jA) l.at' 4
   (r.does.look c1).want (r.does.jU c1.jA) r.at' 3,
  λc into=>c.two 35 into l.does r.does,{give:=λc into=>c.two 35 into l.does.fd.dn r.does.fd.dn}⟩
def Zr(kind:Int)(what:jm)(x:Sx):Dn:=
 ⟨λ_=>kind,nM x.of x.jF,
  λc into=>
   let f:=c.mW (jQ x.base) x.jF
   let k:=(f.1.jZ c.free).choose into
   (k.1.lay (if what.data.toList==[99,111,117,110,116]then 23 else 24) [k.2,f.2],k.2),
  {give:=λc into=>
    let f:=c.mW (jQ x.base) x.fold
    let k:=(f.1.jZ c.free).choose into
    (k.1.lay (if what.data.toList==[99,111,117,110,116]then 23 else 24) [k.2,f.2],k.2)}⟩
def yu(kind:Int)(what:jm)(x:Sx)(b:Wd×Ex):Dn:=
 ⟨λ_=>kind,
  λc=>(nM x.of x.jF c).bracket b.1.text b.1.at' b.2.does b.2.at' x.of (if what.data.toList==[97,110,121]then 2 else 1),
  λc _=>
   let answer:=c.hold.2
   let best:=c.hold.1.hold.2
   let o:=(c.hold.1.hold.1.lay 6 [answer,if kind=3\/kind=4 then -1 else 0]).jW (jQ x.base) x.jF
   let i:=o.1.inside b.1.text b.2.does o.2
   let m:=if what.data.toList==[109,105,110]then i.1.lay 25 [answer,best,o.2,i.2]else if what.data.toList==[109,97,120]then i.1.lay 26 [answer,best,o.2,i.2]
    else if what.data.toList==[115,117,109]then i.1.lay 10 [answer,answer,i.2]else if what.data.toList==[97,110,121]then i.1.lay 20 [answer,answer,i.2]else i.1
   ((m.lay 0 []).jZ (wrap64 (answer+1)),answer),
  {give:=λc _=>
    let answer:=c.hold.2
    let best:=c.hold.1.hold.2
    let o:=(c.hold.1.hold.1.lay 6 [answer,if kind=3\/kind=4 then -1 else 0]).jW (jQ x.base) x.fold
    let i:=o.1.inside b.1.text b.2.does.fd.dn o.2
    let m:=if what.data.toList==[109,105,110]then i.1.lay 25 [answer,best,o.2,i.2]else if what.data.toList==[109,97,120]then i.1.lay 26 [answer,best,o.2,i.2]
     else if what.data.toList==[115,117,109]then i.1.lay 10 [answer,answer,i.2]else if what.data.toList==[97,110,121]then i.1.lay 20 [answer,answer,i.2]else i.1
    ((m.lay 0 []).jZ (wrap64 (answer+1)),answer)}⟩
def BN(at' n:Int):Ex:=qZ 405 407 at' 1 1 yY (λ_=>[Im n]) (adz n)
def zO(at' jy kind:Int)(b:Bool):Ex:=qZ 392 394 at' jy kind yY (λ_=>[.bool b]) (af8 kind b)
def Dv(at' i:Int):Ex:=qZ 386 388 at' 1 1 yY (λ_=>[Im i]) (apD i)
def y8(at':Int)(d:Wd):Ex:=⟨at',1,λa w lo hi v=>∃k,(qZ 389 391 at' 1 k yY (λ_=>[.string d.text,Im d.at'])).here a w lo hi v,arK d⟩
def yV(at':Int)(e:Ex):Ex:=qZ 395 397 at' (jS [e.jy]) 2 (nX (e.here e.at')) (λus=>us) (ach e)
def tV(at' kind:Int)(sign:jm)(e:Ex):Ex:=qZ 379 381 at' (jS [e.jy]) kind (nX (e.here e.at')) (λus=>.string sign::us) (adK kind sign e)
def o7(at' kind:Int)(sign:jm)(l r:Ex):Ex:=qZ 374 376 at' (jS [l.jy,r.jy]) kind (xH (l.here l.at') (r.here r.at')) (λus=>.string sign::us) (Xa kind sign l r)
def vS(at' kind owner:Int)(e:Ex)(d:Wd):Ex:=qZ 383 385 at' (jS [e.jy]) kind (nX (e.here e.at')) (λus=>Im owner::us++[.string d.text,Im d.at']) (aem kind owner e d)
def xJ(at':Int)(l r:Ex):Ex:=qZ 398 400 at' (jS [l.jy,r.jy]) 2 (xH (l.here l.at') (r.here r.at')) (λus=>us) (adF l r)
def xW(kind:Int)(what:jm)(x:Sx):Ex:=qZ 410 412 x.at' (jS [x.jy]) kind (nX (oN x)) (λus=>.string what::us) (Zr kind what x)
def Hx.Sx.round(x:Sx)(c:Int):Int:=lg [(if x.of=3 then 8 else 16) * lg [1,c]]
def vK(kind:Int)(what:jm)(x:Sx)(b:Wd×Ex):Ex:=
 qZ 413 415 x.at' (jS [x.jy,x.round b.2.jy]) kind (xH (oN x) (b.2.here b.2.at')) (λus=>.string what::(us.take 1++[.string b.1.text,Im b.1.at']++us.drop 1)) (yu kind what x b)
def qR:Ex:=zO 0 0 0 false
def Hx.Ex.widen(e:Ex)(a:Int):Ex:={e with at':=a}
def Hx.Sx.add(x:Sx)(b:Wd×Ex):Sx:={x with jF:=x.jF++[b],jy:=lg [x.jy,x.round b.2.jy]}
namespace Hx
section
variable (s:jm)(ex:Ps->Ex×Ps)
def BH(p:Ps):Ex×Ps:=((ex (p.jW s [40])).1,(ex (p.jW s [40])).2.close s [41])
def qL(at':Int)(e:Ex)(p:Ps):Ex×Ps:=(xJ at' e (ex (p.jW s [40])).1,(ex (p.jW s [40])).2.close s [41])
def pY(p:Ps):(Wd×Ex)×Ps:=
 let d:=(p.jW s [40]).name s
 let e:=ex (d.2.expect s [58])
 ((d.1,e.1),e.2.close s [41])
def qM:Nat->Sx->Ps->(Sx×Bool)×Ps
 |0,x,p=>((x,false),p)
 |n+1,x,p=>if p.is [46]then
   (if (p.next s).is [102,105,108,116,101,114]then qM n (x.add (pY s ex ((p.next s).next s)).1) (pY s ex ((p.next s).next s)).2 else ((x,true),p.next s))
  else ((x,false),p)
def mZ(n:Nat)(p:Ps):(Sx×Bool)×Ps:=match setOf p.k.text.data.toList with
 |some of=>qM s ex n ⟨p.k.at',1,p.k.text,of,[]⟩ (p.next s)
 |none=>((⟨p.k.at',1,p.k.text,4,[]⟩,false),p.fail)
def G9(x:Sx)(kind:Int)(p:Ps):Ex×Ps:=(xW kind p.k.text x,p.next s)
def Dp(x:Sx)(kind:Int)(p:Ps):Ex×Ps:=(vK kind p.k.text x (pY s ex (p.next s)).1,(pY s ex (p.next s)).2)
def zL(x:Sx)(p:Ps):Ex×Ps:=
 if p.is [99,111,117,110,116]then G9 s x 1 p else if p.is [102,105,114,115,116]then G9 s x x.of p else if p.is [109,105,110]||p.is [109,97,120]then Dp s ex x x.of p
 else if p.is [115,117,109]then Dp s ex x 1 p else if p.is [97,110,121]then Dp s ex x 2 p else (qR,p.fail)
def yB(n:Nat)(p:Ps):Ex×Ps:=if (mZ s ex n p).1.2 then zL s ex (mZ s ex n p).1.1 (mZ s ex n p).2 else (qR,(mZ s ex n p).2.fail)
def rX(n:Nat)(p:Ps):Ex×Ps:=
 if p.k.kind=3 then (BN p.k.at' ((Lib.atoi p.k.text.data.toList).getD 0),p.next s)
 else if p.k.kind=4 then (Dv p.k.at' ((p.k.text.data.toList.getD 1 0).toNat-48),p.next s)
 else if p.k.kind=2 then (y8 p.k.at' ⟨p.k.text,p.k.at'⟩,p.next s)
 else if p.is [116,114,117,101]||p.is [102,97,108,115,101]then (zO p.k.at' 1 2 (p.is [116,114,117,101]),p.next s)
 else if p.is [40]then ((BH s ex p).1.widen p.k.at',(BH s ex p).2)
 else if p.is [105,115,110,111,110,101]then (yV p.k.at' (BH s ex (p.next s)).1,(BH s ex (p.next s)).2)
 else if (setOf p.k.text.data.toList).isSome then yB s ex n p
 else (qR,p.fail)
def qA(at':Int):Nat->Ex->Ps->Ex×Ps
 |0,e,p=>(e,p)
 |n+1,e,p=>if p.is [46]then
   (let d:=(p.next s).name s
    if d.1.text.data.toList==[111,110]&&d.2.is [40]then qA at' n (qL s ex at' e d.2).1 (qL s ex at' e d.2).2
    else qA at' n (vS at' (oW d.1.text.data.toList).2 (oW d.1.text.data.toList).1 e d.1) d.2)
  else (e,p)
def xY(n:Nat)(p:Ps):Ex×Ps:=qA s ex p.k.at' n (rX s ex n p).1 (rX s ex n p).2
def qQ(n:Nat):Nat->Ps->Ex×Ps
 |0,p=>xY s ex n p
 |m+1,p=>if p.is [45]then (tV p.k.at' 1 p.k.text (qQ n m (p.next s)).1,(qQ n m (p.next s)).2)
  else if p.is [33]then (tV p.k.at' 2 p.k.text (qQ n m (p.next s)).1,(qQ n m (p.next s)).2)else xY s ex n p
end
def sF(s:jm)(lower:Ps->Ex×Ps)(of:Int)(at':Int):Nat->Ex->Ps->Ex×Ps
 |0,e,p=>(e,p)
 |n+1,e,p=>if oL p.k.text.data.toList=of then
   (let r:=lower (p.next s)
    let e':=o7 at' (ni p.k.text.data.toList).2 p.k.text e r.1
    if of=2\/of=3 then (e',r.2)else sF s lower of at' n e' r.2)
  else (e,p)
def yx(s:jm)(ex:Ps->Ex×Ps)(n:Nat):Nat->Ps->Ex×Ps
 |0,p=>qQ s ex n n p
 |l+1,p=>sF s (yx s ex n l) (5-l) p.k.at' n (yx s ex n l p).1 (yx s ex n l p).2
def vF(s:jm):Nat->Ps->Ex×Ps
 |0,p=>(qR,p.fail)
 |d+1,p=>yx s (vF s d) (s.size+1) 6 p
end Hx
end
end
end Go.Proofs.YthllhabjfchgiaaGreatDoor
