import Derived.Test.YthllhabjfchgiaaGreatDoorHk19
set_option maxRecDepth 100000
set_option maxHeartbeats 8000000
set_option linter.unusedSimpArgs false
namespace Go.Proofs.YthllhabjfchgiaaGreatDoor
open _root_.Go.Proofs.Tryz
section
open Go.RowKit Hx
structure Fr where
 is:List I
 jC:Int
 deep:Nat
 size:Nat
 jB:Nat->List Int->List St
def sQ(is:List I)(sl:Int):Int:=is.foldl (λsl i=>slotsOf (Hx.shape i.o) i.ns sl) sl
def Ld(p:Int)(s:List St)(bl:List Bk)(t:Bk)(lp:List Int)(sl n:Int):Ls:=⟨p,s,bl++[t],lp,sl,n,false⟩
structure Fr.Ok(fr:Fr)(inLoop:Bool):Prop where
 jC:0<=fr.jC
 size:∀b lp,(fr.jB b lp).length=fr.size
 load:∀(p:Int)(s:List St)(bl:List Bk)(t:Bk)(lp:List Int)(sl n:Int),lp.length+fr.deep<=8->(inLoop=true->lp≠[])->0<=t.jC->t.jC+fr.jC<=40000040->
  D9 fr.is (Ld p s bl t lp sl n)/\fr.is.foldl uf (Ld p s bl t lp sl n)=Ld (p+(jU fr.is).length) (s++fr.jB s.length lp) bl ⟨t.opener,t.other,t.jC+fr.jC,t.before⟩ lp (sQ fr.is sl) n
theorem CX(p:Int)(s:List St)(bl:List Bk)(t:Bk)(lp:List Int)(sl n:Int):(Ld p s bl t lp sl n).jH≠[]:=by simp[Ld]
theorem D6(p:Int)(s:List St)(bl:List Bk)(t:Bk)(lp:List Int)(sl n:Int):(Ld p s bl t lp sl n).top=t:=by simp[Ld,Hx.Ls.top]
theorem KR(p:Int)(s:List St)(bl:List Bk)(t:Bk)(lp:List Int)(sl n:Int):(Ld p s bl t lp sl n).jH.dropLast=bl:=by simp[Ld]
def Fr.nil:Fr:=⟨[],0,0,0,λ_ _=>[]⟩
theorem Fr.Nq(b:Bool):Fr.nil.Ok b:=by
 refine⟨aV 0,λ_ _=>rfl,λp s bl t lp sl n _ _ _ _=>⟨trivial,?_⟩⟩;simp[Fr.nil,mF,sQ]
def Fr.seq(a b:Fr):Fr:=⟨a.is++b.is,a.jC+b.jC,max a.deep b.deep,a.size+b.size,λk lp=>a.jB k lp++b.jB (k+a.size) lp⟩
theorem Fr.uq{a b:Fr}{x:Bool}(ha:a.Ok x)(hb:b.Ok x):(a.seq b).Ok x:=by
 have n1:=ha.jC;have n2:=hb.jC;refine⟨by show 0<=a.jC+b.jC;omega,λk lp=>by simp[Fr.seq,ha.size,hb.size],λp s bl t lp sl n h2 h3 h4 h5=>?_⟩;have h2:lp.length+max a.deep b.deep<=8:=h2;have h5:t.jC+(a.jC+b.jC)<=40000040:=h5;obtain⟨t1,e1⟩:=ha.load p s bl t lp sl n (by omega) h3 h4 (by omega);obtain⟨t2,e2⟩:=hb.load (p+(jU a.is).length) (s++a.jB s.length lp) bl ⟨t.opener,t.other,t.jC+a.jC,t.before⟩ lp (sQ a.is sl) n (by omega) h3 (by show 0<=t.jC+a.jC;omega) (by show t.jC+a.jC+b.jC<=_;omega);refine⟨t1.append (by rw[e1];exact t2),?_⟩;show(a.is++b.is).foldl uf _=_;rw[dV,e1,e2];simp only[Fr.seq,nN,aA,ha.size,bY,sQ,dV,iP,iC]
theorem OE(p:Int)(s:List St)(bl:List Bk)(t:Bk)(lp:List Int)(sl n k:Int)(h0:0<=t.jC+k)(h1:t.jC+k<=40000040):(Ld p s bl t lp sl n).count k=Ld p s bl ⟨t.opener,t.other,t.jC+k,t.before⟩ lp sl n:=by
 have e:wrap64 (t.jC+k)=t.jC+k:=by unfold wrap64;omega
 unfold Hx.Ls.count;rw[D6,KR,e,dO (by omega)]
 rfl
theorem GL(p:Int)(s:List St)(bl:List Bk)(t:Bk)(lp:List Int)(sl n:Int)(st:St)(h0:0<=t.jC)(h1:t.jC+1<=40000040):mM (Ld p s bl t lp sl n) st=Ld p (s++[st]) bl ⟨t.opener,t.other,t.jC+1,t.before⟩ lp sl n:=
 OE p (s++[st]) bl t lp sl n 1 (by omega) h1
theorem Et(p:Int)(s:List St)(bl:List Bk)(t:Bk)(lp:List Int)(sl n:Int)(i:I):uf (Ld p s bl t lp sl n) i=lH (Ld (p+(enc i).length) s bl t lp (slotsOf (Hx.shape i.o) i.ns sl) n) (stepOf i):=rfl
def Fr.ins(i:I):Fr:=⟨[i],1,0,1,λ_ _=>[stepOf i]⟩
theorem Fr.xu{i:I}(h:rC i)(hn:6<=i.o\/i.o=1)(x:Bool):(Fr.ins i).Ok x:=by
 refine⟨by show(0:Int)<=1;omega,λ_ _=>rfl,λp s bl t lp sl n _ _ h4 h5=>⟨⟨(CX _ _ _ _ _ _ _),rfl,h,trivial⟩,?_⟩⟩;show uf _ i=_;rw[Et];unfold lH;rw[jg (by show¬i.o=2;omega),jg (by show¬i.o=4;omega),jg (by show¬i.o=3;omega),jg (by show¬i.o=0;omega),jg (by show¬i.o=5;omega),GL _ _ _ _ _ _ _ _ h4 h5];simp only[Fr.ins,ny,mF,aX,sQ,bP,eF]
def Q7(a to':Int):St:=⟨5,a,0,0,0,0,to'⟩
def Fr.skip(a:Int):Fr:=⟨[⟨5,[a]⟩],1,0,1,λ_ lp=>[Q7 a (lp.getLastD 0)]⟩
theorem Fr.af0{a:Int}(h:rC ⟨5,[a]⟩):(Fr.skip a).Ok true:=by
 refine⟨by show(0:Int)<=1;omega,λ_ _=>rfl,λp s bl t lp sl n _ h3 h4 h5=>⟨⟨(CX _ _ _ _ _ _ _),rfl,h,trivial⟩,?_⟩⟩;show uf _ (⟨5,[a]⟩:I)=_;rw[Et];unfold lH;rw[jg (by show¬(5:Int)=2;omega),jg (by show¬(5:Int)=4;omega),jg (by show¬(5:Int)=3;omega),jg (by show¬(5:Int)=0;omega),jh (by rfl)];unfold Ip;rw[jg (by exact h3 rfl),GL _ _ _ _ _ _ _ _ h4 h5];simp only[Fr.skip,ny,mF,aX,sQ,bP,eF]
 rfl
theorem QW{α:Type}(a:List α)(x y:α)(b:List α):(a++x::b).set a.length y=a++y::b:=by
 rw[iw _ _ (aj _)];simp
theorem LX{α:Type}(a:List α)(x:α)(b:List α):(a++x::b)[a.length]? =some x:=by simp
theorem OI:rC ⟨0,[]⟩:=⟨⟨by decide,by decide⟩,rfl⟩
theorem aj9:rC ⟨3,[]⟩:=⟨⟨by decide,by decide⟩,rfl⟩
def tZ(a to':Int):St:=⟨2,a,0,0,0,0,to'⟩
def zL(to':Int):St:=⟨3,0,0,0,0,0,to'⟩
def FI(to':Int):St:=⟨0,0,0,0,0,0,to'⟩
def mP(list a b depth to':Int):St:=⟨4,list,a,b,0,depth,to'⟩
theorem aeh{a:Int}(p:Int)(s:List St)(bl:List Bk)(t:Bk)(lp:List Int)(sl n:Int)(h4:0<=t.jC)(h5:t.jC+1<=40000040):uf (Ld p s bl t lp sl n) ⟨2,[a]⟩=
 Ld (p+(enc ⟨2,[a]⟩).length) (s++[tZ a 0]) (bl++[⟨t.opener,t.other,t.jC+1,t.before⟩]) ⟨s.length,0,0,0⟩ lp (slotsOf (Hx.shape 2) [a] sl) n:=by
 rw[Et];unfold lH;rw[jh (by rfl)];unfold xA;rw[GL _ _ _ _ _ _ _ _ h4 h5]
 rfl
theorem akf(p:Int)(s y:List St)(st:St)(bl:List Bk)(t:Bk)(nd bf:Int)(lp:List Int)(sl n:Int)(hst:st.op=2)(h0:0<=t.jC)(h1:0<=nd)(h2:t.jC+max nd bf<=40000040):uf (Ld p (s++st::y) (bl++[t]) ⟨s.length,0,nd,bf⟩ lp sl n) ⟨0,[]⟩=
 Ld (p+(enc ⟨0,[]⟩).length) (s++⟨st.op,st.a,st.b,st.c,st.d,st.depth,((s++st::y).length:Nat)⟩::y) bl ⟨t.opener,t.other,t.jC+max nd bf,t.before⟩ lp sl n:=by
 rw[Et];unfold lH;rw[jg (by show¬(0:Int)=2;omega),jg (by show¬(0:Int)=4;omega),jg (by show¬(0:Int)=3;omega),jh (by rfl),jg (by simp[Ld])];rw[D6,KR];have hget:(s++st::y)[((s.length:Int)).toNat]? =some st:=by rw[bK];exact LX _ _ _
 show(match (s++st::y)[((s.length:Int)).toNat]?with|none=>_|some sp=>_)=_;rw[hget];simp only;rw[jg (by rw[hst];omega),jg (by omega)];unfold tX;have hc:=OE (p+(enc ⟨0,[]⟩).length) ((s++st::y).set ((s.length:Int)).toNat ⟨st.op,st.a,st.b,st.c,st.d,st.depth,((s++st::y).length:Nat)⟩) bl t lp sl n (max nd bf) (by omega) h2;refine Eq.trans ?_ (hc.trans ?_)
 .rfl
 .rw[bK,QW]
def Fr.ifs(a:Int)(y:Fr):Fr:=⟨⟨2,[a]⟩::y.is++[⟨0,[]⟩],1+y.jC,y.deep,1+y.size,λb lp=>tZ a ((b+1+y.size:Nat):Int)::y.jB (b+1) lp⟩
theorem Fr.alY{a:Int}{y:Fr}{x:Bool}(h:rC ⟨2,[a]⟩)(hy:y.Ok x):(Fr.ifs a y).Ok x:=by
 have hn:=hy.jC;refine⟨by show 0<=1+y.jC;omega,λb lp=>by simp[Fr.ifs,hy.size];omega,λp s bl t lp sl n h2 h3 h4 h5=>?_⟩;have h2:lp.length+y.deep<=8:=h2;have h5:t.jC+(1+y.jC)<=40000040:=h5;have e1:=aeh (a:=a) p s bl t lp sl n h4 (by omega);obtain⟨t2,e2⟩:=hy.load (p+(enc ⟨2,[a]⟩).length) (s++[tZ a 0]) (bl++[⟨t.opener,t.other,t.jC+1,t.before⟩]) ⟨s.length,0,0,0⟩ lp (slotsOf (Hx.shape 2) [a] sl) n h2 h3 (aV 0) (by show 0+y.jC<=_;omega);have hsz:=hy.size (s.length+1) lp;have hl:(s++[tZ a 0]).length=s.length+1:=by simp
 rw[hl,bY,fC]at e2;have e3:=akf (p+(enc ⟨2,[a]⟩).length+(jU y.is).length) s (y.jB (s.length+1) lp) (tZ a 0) bl ⟨t.opener,t.other,t.jC+1,t.before⟩ (0+y.jC) 0 lp (sQ y.is (slotsOf (Hx.shape 2) [a] sl)) n rfl (by show 0<=t.jC+1;omega) (by omega) (by show t.jC+1+max (0+y.jC) 0<=_;omega);refine⟨⟨(CX _ _ _ _ _ _ _),rfl,h,?_⟩,?_⟩
 .rw[e1];refine t2.append ?_;rw[e2];exact⟨(CX _ _ _ _ _ _ _),rfl,OI,trivial⟩
 .show((⟨2,[a]⟩:I)::y.is++[(⟨0,[]⟩:I)]).foldl uf _=_;rw[bZ,bP,e1,dV,e2];refine e3.trans ?_;have hmx:t.jC+1+max (0+y.jC) 0=t.jC+(1+y.jC):=by omega
  simp only[Fr.ifs,ny,nN,mF,aX,aA,aF,hsz,sQ,bP,eF,dV,bZ,hmx,iP,iC,tZ];rw[show((s.length:Int)+((y.size:Int)+((1:Nat):Int)))=(s.length:Int)+(((1:Nat):Int)+(y.size:Int)) by omega]
  rfl
theorem ajY(p:Int)(s y:List St)(st:St)(bl:List Bk)(nd:Int)(lp:List Int)(sl n:Int)(hbl:bl≠[])(hst:st.op=2)(h1:0<=nd)(h2:nd+1<=40000040):uf (Ld p (s++st::y) bl ⟨s.length,0,nd,0⟩ lp sl n) ⟨3,[]⟩=
 Ld (p+(enc ⟨3,[]⟩).length) (s++⟨st.op,st.a,st.b,st.c,st.d,st.depth,((s++st::y).length+1:Nat)⟩::(y++[zL 0])) bl ⟨s.length,((s++st::y).length:Nat),0,nd+1⟩ lp sl n:=by
 rw[Et];unfold lH;have hlen:¬((Ld (p+(enc ⟨3,[]⟩).length) (s++st::y) bl ⟨s.length,0,nd,0⟩ lp (slotsOf (Hx.shape 3) [] sl) n).jH.length=1\/0<(Ld (p+(enc ⟨3,[]⟩).length) (s++st::y) bl ⟨s.length,0,nd,0⟩ lp (slotsOf (Hx.shape 3) [] sl) n).top.other):=by
  rw[D6];have:0<bl.length:=List.length_pos_iff.2 hbl;simp[Ld];omega
 rw[jg (by show¬(3:Int)=2;omega),jg (by show¬(3:Int)=4;omega),jh (by rfl),jg hlen,D6];have hget:(s++st::y)[((s.length:Int)).toNat]? =some st:=by rw[bK];exact LX _ _ _
 show(match (s++st::y)[((s.length:Int)).toNat]?with|none=>_|some sp=>_)=_;rw[hget];simp only;rw[jh hst];unfold Ec;have ha:=GL (p+(enc ⟨3,[]⟩).length) (s++st::y) bl ⟨s.length,0,nd,0⟩ lp sl n (zL 0) h1 h2;show FC (mM (Ld (p+(enc ⟨3,[]⟩).length) (s++st::y) bl ⟨s.length,0,nd,0⟩ lp sl n) (zL 0)) _ _ st=_;rw[ha];unfold FC;rw[D6,KR];show Ld _ ((s++st::y++[zL 0]).set ((s.length:Int)).toNat _) _ _ _ _ _=_;rw[bK,bY,bZ,QW];simp[Ld];omega
theorem ake(p:Int)(s y z:List St)(st se:St)(bl:List Bk)(t:Bk)(nd bf:Int)(lp:List Int)(sl n:Int)(hst:st.op=2)(h0:0<=t.jC)(h1:0<=nd)(h2:t.jC+max nd bf<=40000040):uf (Ld p (s++st::(y++se::z)) (bl++[t]) ⟨s.length,((s++st::y).length:Nat),nd,bf⟩ lp sl n) ⟨0,[]⟩=
 Ld (p+(enc ⟨0,[]⟩).length) (s++st::(y++⟨se.op,se.a,se.b,se.c,se.d,se.depth,((s++st::(y++se::z)).length:Nat)⟩::z)) bl ⟨t.opener,t.other,t.jC+max nd bf,t.before⟩ lp sl n:=by
 rw[Et];unfold lH;rw[jg (by show¬(0:Int)=2;omega),jg (by show¬(0:Int)=4;omega),jg (by show¬(0:Int)=3;omega),jh (by rfl),jg (by simp[Ld])];rw[D6,KR];have hget:(s++st::(y++se::z))[((s.length:Int)).toNat]? =some st:=by rw[bK];exact LX _ _ _
 have happ:s++st::(y++se::z)=(s++st::y)++se::z:=by simp
 have ali:(s++st::(y++se::z))[(((s++st::y).length:Nat):Int).toNat]? =some se:=by rw[bK,happ];exact LX _ _ _
 show(match (s++st::(y++se::z))[((s.length:Int)).toNat]?with|none=>_|some sp=>_)=_;rw[hget];simp only;rw[jg (by rw[hst];omega),jh (by simp;omega)];show(match (s++st::(y++se::z))[(((s++st::y).length:Nat):Int).toNat]?with|none=>_|some sr=>_)=_;rw[ali];simp only;unfold tX;have hc:=OE (p+(enc ⟨0,[]⟩).length) ((s++st::(y++se::z)).set (((s++st::y).length:Nat):Int).toNat ⟨se.op,se.a,se.b,se.c,se.d,se.depth,((s++st::(y++se::z)).length:Nat)⟩) bl t lp sl n (max nd bf) (by omega) h2;refine Eq.trans ?_ (hc.trans ?_)
 .rfl
 .rw[bK]
  conv=>lhs;rw[happ]
  rw[QW];simp
def Fr.Es(a:Int)(y z:Fr):Fr:=⟨⟨2,[a]⟩::y.is++(⟨3,[]⟩::z.is++[⟨0,[]⟩]),1+max z.jC (y.jC+1),max y.deep z.deep,1+y.size+(1+z.size),λb lp=>tZ a ((b+1+y.size+1:Nat):Int)::(y.jB (b+1) lp++zL ((b+1+y.size+1+z.size:Nat):Int)::z.jB (b+1+y.size+1) lp)⟩
theorem Fr.alV{a:Int}{y z:Fr}{x:Bool}(h:rC ⟨2,[a]⟩)(hy:y.Ok x)(hz:z.Ok x):(Fr.Es a y z).Ok x:=by
 have hn:=hy.jC;have hm:=hz.jC;refine⟨by show 0<=1+max z.jC (y.jC+1);omega,λb lp=>by simp[Fr.Es,hy.size,hz.size];omega,λp s bl t lp sl n h2 h3 h4 h5=>?_⟩;have h2:lp.length+max y.deep z.deep<=8:=h2;have h5:t.jC+(1+max z.jC (y.jC+1))<=40000040:=h5;have e1:=aeh (a:=a) p s bl t lp sl n h4 (by omega);obtain⟨t2,e2⟩:=hy.load (p+(enc ⟨2,[a]⟩).length) (s++[tZ a 0]) (bl++[⟨t.opener,t.other,t.jC+1,t.before⟩]) ⟨s.length,0,0,0⟩ lp (slotsOf (Hx.shape 2) [a] sl) n (by omega) h3 (aV 0) (by show 0+y.jC<=_;omega);have hsz:=hy.size (s.length+1) lp;have hl:(s++[tZ a 0]).length=s.length+1:=by simp
 rw[hl,bY,fC]at e2;have e3:=ajY (p+(enc ⟨2,[a]⟩).length+(jU y.is).length) s (y.jB (s.length+1) lp) (tZ a 0) (bl++[⟨t.opener,t.other,t.jC+1,t.before⟩]) (0+y.jC) lp (sQ y.is (slotsOf (Hx.shape 2) [a] sl)) n (by simp) rfl (by omega) (by omega);obtain⟨t4,e4⟩:=hz.load (p+(enc ⟨2,[a]⟩).length+(jU y.is).length+(enc ⟨3,[]⟩).length) (s++tZ a ((s++tZ a 0::y.jB (s.length+1) lp).length+1:Nat)::(y.jB (s.length+1) lp++[zL 0])) (bl++[⟨t.opener,t.other,t.jC+1,t.before⟩]) ⟨s.length,((s++tZ a 0::y.jB (s.length+1) lp).length:Nat),0,0+y.jC+1⟩ lp (sQ y.is (slotsOf (Hx.shape 2) [a] sl)) n (by omega) h3 (aV 0) (by show 0+z.jC<=_;omega);have hl2:(s++tZ a 0::y.jB (s.length+1) lp).length=s.length+1+y.size:=by simp[hsz];omega
 have hl3:(s++tZ a ((s++tZ a 0::y.jB (s.length+1) lp).length+1:Nat)::(y.jB (s.length+1) lp++[zL 0])).length=s.length+1+y.size+1:=by simp[hsz];omega
 have hsz2:=hz.size (s.length+1+y.size+1) lp;rw[hl3]at e4;rw[hl2]at e3 e4 t4;have happ:(s++tZ a ((s.length+1+y.size+1:Nat):Int)::(y.jB (s.length+1) lp++[zL 0]))++z.jB (s.length+1+y.size+1) lp=s++tZ a ((s.length+1+y.size+1:Nat):Int)::(y.jB (s.length+1) lp++zL 0::z.jB (s.length+1+y.size+1) lp):=by simp
 rw[happ]at e4;have e5:=ake (p+(enc ⟨2,[a]⟩).length+(jU y.is).length+(enc ⟨3,[]⟩).length+(jU z.is).length) s (y.jB (s.length+1) lp) (z.jB (s.length+1+y.size+1) lp) (tZ a ((s.length+1+y.size+1:Nat):Int)) (zL 0) bl ⟨t.opener,t.other,t.jC+1,t.before⟩ (0+z.jC) (0+y.jC+1) lp (sQ z.is (sQ y.is (slotsOf (Hx.shape 2) [a] sl))) n rfl (by show 0<=t.jC+1;omega) (by omega) (by show t.jC+1+max (0+z.jC) (0+y.jC+1)<=_;omega);have hl4:(s++tZ a ((s.length+1+y.size+1:Nat):Int)::y.jB (s.length+1) lp).length=s.length+1+y.size:=by simp[hsz];omega
 rw[hl4]at e5;refine⟨⟨(CX _ _ _ _ _ _ _),rfl,h,?_⟩,?_⟩
 .rw[e1];refine t2.append ?_;rw[e2];refine⟨(CX _ _ _ _ _ _ _),rfl,aj9,?_⟩;rw[e3];refine t4.append ?_;have e4':=e4;rw[show(z.is.foldl uf _)=_ from e4'];exact⟨(CX _ _ _ _ _ _ _),rfl,OI,trivial⟩
 .show((⟨2,[a]⟩:I)::y.is++((⟨3,[]⟩:I)::z.is++[(⟨0,[]⟩:I)])).foldl uf _=_;rw[bZ,bP,e1,dV,e2,bZ,bP,e3,dV];refine(congrArg (λq=>[(⟨0,[]⟩:I)].foldl uf q) e4).trans (e5.trans ?_);have hmx:t.jC+1+max (0+z.jC) (0+y.jC+1)=t.jC+(1+max z.jC (y.jC+1)):=by omega
  have hl5:(s++tZ a ((s.length+1+y.size+1:Nat):Int)::(y.jB (s.length+1) lp++zL 0::z.jB (s.length+1+y.size+1) lp)).length=s.length+1+y.size+1+z.size:=by simp[hsz,hsz2];omega
  rw[hl5,hmx];simp only[Fr.Es,ny,nN,mF,aX,aA,sQ,bP,eF,dV,bZ,iP,iC,zL]
  rfl
theorem ang{list a b:Int}(p:Int)(s:List St)(bl:List Bk)(t:Bk)(lp:List Int)(sl n:Int)(hd:lp.length<8)(h4:0<=t.jC)(h5:t.jC+1<=40000040):uf (Ld p s bl t lp sl n) ⟨4,[list,a,b]⟩=
 Ld (p+(enc ⟨4,[list,a,b]⟩).length) (s++[mP list a b lp.length 0]) (bl++[⟨t.opener,t.other,t.jC+1,t.before⟩]) ⟨s.length,0,0,0⟩ (lp++[(s.length:Int)]) (slotsOf (Hx.shape 4) [list,a,b] sl) n:=by
 rw[Et];unfold lH;rw[jg (by show¬(4:Int)=2;omega),jh (by rfl),jg (by show¬lp.length=8;omega)];unfold Hy xA;have ha:=GL (p+(enc ⟨4,[list,a,b]⟩).length) s bl t lp (slotsOf (Hx.shape 4) [list,a,b] sl) n (mP list a b lp.length 0) h4 h5;show({({mM (Ld (p+(enc ⟨4,[list,a,b]⟩).length) s bl t lp (slotsOf (Hx.shape 4) [list,a,b] sl) n) (mP list a b lp.length 0)with jH:=(mM (Ld (p+(enc ⟨4,[list,a,b]⟩).length) s bl t lp (slotsOf (Hx.shape 4) [list,a,b] sl) n) (mP list a b lp.length 0)).jH++[⟨s.length,0,0,0⟩]}:Ls)with jV:=lp++[(s.length:Int)]}:Ls)=_;rw[ha]
 rfl
theorem akj(p:Int)(s y:List St)(st:St)(bl:List Bk)(t:Bk)(nd:Int)(lp:List Int)(sl n:Int)(hst:st.op=4)(h0:0<=t.jC)(h1:0<=nd)(hls:0<=Hx.kR st.a * (nd+1))(hn1:nd+1<=40000040)(h2:t.jC+Hx.kR st.a * (nd+1)<=40000040):uf (Ld p (s++st::y) (bl++[t]) ⟨s.length,0,nd,0⟩ (lp++[(s.length:Int)]) sl n) ⟨0,[]⟩=
 Ld (p+(enc ⟨0,[]⟩).length) (s++⟨st.op,st.a,st.b,st.c,st.d,st.depth,((s++st::y).length+1:Nat)⟩::(y++[FI s.length])) bl ⟨t.opener,t.other,t.jC+Hx.kR st.a * (nd+1),t.before⟩ lp sl n:=by
 rw[Et];unfold lH;rw[jg (by show¬(0:Int)=2;omega),jg (by show¬(0:Int)=4;omega),jg (by show¬(0:Int)=3;omega),jh (by rfl),jg (by simp[Ld]),D6];have hget:(s++st::y)[((s.length:Int)).toNat]? =some st:=by rw[bK];exact LX _ _ _
 show(match (s++st::y)[((s.length:Int)).toNat]?with|none=>_|some sp=>_)=_;rw[hget];simp only;rw[jh hst];unfold Ap;have ha:=GL (p+(enc ⟨0,[]⟩).length) (s++st::y) (bl++[t]) ⟨s.length,0,nd,0⟩ (lp++[(s.length:Int)]) sl n (FI s.length) h1 hn1;show FD (mM (Ld (p+(enc ⟨0,[]⟩).length) (s++st::y) (bl++[t]) ⟨s.length,0,nd,0⟩ (lp++[(s.length:Int)]) sl n) (FI ((s.length:Int).toNat))) ((s.length:Int).toNat) st=_;rw[bK,ha];unfold FD;rw[D6,KR];have hw:wrap64 (Hx.kR st.a * (nd+1))=Hx.kR st.a * (nd+1):=by unfold wrap64;omega
 have hc:=OE (p+(enc ⟨0,[]⟩).length) ((s++st::y++[FI s.length]).set s.length ⟨st.op,st.a,st.b,st.c,st.d,st.depth,((s++st::y++[FI s.length]).length:Nat)⟩) bl t lp sl n (Hx.kR st.a * (nd+1)) (by omega) h2;have hl:(lp++[(s.length:Int)]).dropLast=lp:=by simp
 have e:=hl;show Hx.Ls.count ⟨p+(enc ⟨0,[]⟩).length,(s++st::y++[FI s.length]).set s.length _,bl++[t],(lp++[(s.length:Int)]).dropLast,sl,n,false⟩ (wrap64 (Hx.kR st.a * (nd+1)))=_;rw[hw,hl];refine hc.trans ?_;rw[bY,bZ,QW];simp[Ld];omega
def Fr.loop(list a b:Int)(y:Fr):Fr:=⟨⟨4,[list,a,b]⟩::y.is++[⟨0,[]⟩],1+Hx.kR list * (y.jC+1),y.deep+1,1+y.size+1,λk lp=>mP list a b lp.length ((k+1+y.size+1:Nat):Int)::(y.jB (k+1) (lp++[(k:Int)])++[FI k])⟩
theorem Jy(list:Int):8<=Hx.kR list/\Hx.kR list<=16:=by unfold Hx.kR;split<;>omega
theorem amR(list k:Int)(h:0<=k):8 * k<=Hx.kR list * k:=by unfold Hx.kR;split<;>omega
theorem Fr.adk{list a b:Int}{y:Fr}{x:Bool}(h:rC ⟨4,[list,a,b]⟩)(hy:y.Ok true):(Fr.loop list a b y).Ok x:=by
 have hn:=hy.jC;have hls:=amR list (y.jC+1) (by omega);refine⟨by show 0<=1+Hx.kR list * (y.jC+1);omega,λk lp=>by simp[Fr.loop,hy.size];omega,λp s bl t lp sl n h2 h3 h4 h5=>?_⟩;have h2:lp.length+(y.deep+1)<=8:=h2;have h5:t.jC+(1+Hx.kR list * (y.jC+1))<=40000040:=h5;have e1:=ang (list:=list) (a:=a) (b:=b) p s bl t lp sl n (by omega) h4 (by omega);obtain⟨t2,e2⟩:=hy.load (p+(enc ⟨4,[list,a,b]⟩).length) (s++[mP list a b lp.length 0]) (bl++[⟨t.opener,t.other,t.jC+1,t.before⟩]) ⟨s.length,0,0,0⟩ (lp++[(s.length:Int)]) (slotsOf (Hx.shape 4) [list,a,b] sl) n (by simp;omega) (by simp) (aV 0) (by show 0+y.jC<=_;omega);have hsz:=hy.size (s.length+1) (lp++[(s.length:Int)]);have hl:(s++[mP list a b lp.length 0]).length=s.length+1:=by simp
 rw[hl,bY,fC]at e2;have e3:=akj (p+(enc ⟨4,[list,a,b]⟩).length+(jU y.is).length) s (y.jB (s.length+1) (lp++[(s.length:Int)])) (mP list a b lp.length 0) bl ⟨t.opener,t.other,t.jC+1,t.before⟩ (0+y.jC) lp (sQ y.is (slotsOf (Hx.shape 4) [list,a,b] sl)) n rfl (by show 0<=t.jC+1;omega) (by omega) (by show 0<=Hx.kR list * (0+y.jC+1);rw[Int.zero_add];omega) (by omega) (by show t.jC+1+Hx.kR list * (0+y.jC+1)<=_;rw[Int.zero_add];omega);refine⟨⟨(CX _ _ _ _ _ _ _),rfl,h,?_⟩,?_⟩
 .rw[e1];refine t2.append ?_;rw[e2];exact⟨(CX _ _ _ _ _ _ _),rfl,OI,trivial⟩
 .show((⟨4,[list,a,b]⟩:I)::y.is++[(⟨0,[]⟩:I)]).foldl uf _=_;rw[bZ,bP,e1,dV,e2];refine e3.trans ?_;have hl2:(s++mP list a b lp.length 0::y.jB (s.length+1) (lp++[(s.length:Int)])).length+1=s.length+1+y.size+1:=by simp[hsz];omega
  have hmx:t.jC+1+Hx.kR list * (0+y.jC+1)=t.jC+(1+Hx.kR list * (y.jC+1)):=by rw[Int.zero_add];omega
  rw[hl2];show Ld _ _ bl ⟨t.opener,t.other,t.jC+1+Hx.kR list * (0+y.jC+1),t.before⟩ _ _ _=_;rw[hmx];simp only[Fr.loop,ny,nN,mF,aX,aA,sQ,bP,eF,dV,bZ,iP,iC,mP]
  rfl
theorem am0{fr:Fr}(h:fr.Ok false)(hn:fr.jC+1<=40000040)(hd:fr.deep<=8)(hl:(jU (fr.is++[⟨0,[]⟩])).length<=100000):
 wU (Hx.bytes (jU (fr.is++[⟨0,[]⟩])))=true/\(mG (Hx.bytes (jU (fr.is++[⟨0,[]⟩])))).jB=fr.jB 0 []++[⟨1,0,0,0,0,0,0⟩]/\(mG (Hx.bytes (jU (fr.is++[⟨0,[]⟩])))).jD=sQ fr.is 8/\(mG (Hx.bytes (jU (fr.is++[⟨0,[]⟩])))).jC=fr.jC+1:=by
 have hnn:=h.jC;obtain⟨t1,e1⟩:=h.load 0 [] [] ⟨0,0,0,0⟩ [] 8 0 (by simpa using hd) (by simp) (aV 0) (by show 0+fr.jC<=_;omega);have hfirst:tY=Ld 0 [] [] ⟨0,0,0,0⟩ [] 8 0:=rfl;rw[<-hfirst]at t1 e1;have hend:uf (Ld (0+(jU fr.is).length) ([]++fr.jB 0 []) [] ⟨0,0,0+fr.jC,0⟩ [] (sQ fr.is 8) 0) ⟨0,[]⟩=⟨0+(jU fr.is).length+(enc ⟨0,[]⟩).length,fr.jB 0 []++[⟨1,0,0,0,0,0,0⟩],[],[],sQ fr.is 8,fr.jC+1,false⟩:=by
  rw[Et];unfold lH;rw[jg (by show¬(0:Int)=2;omega),jg (by show¬(0:Int)=4;omega),jg (by show¬(0:Int)=3;omega),jh (by rfl),jh (by simp[Ld])];unfold Am;rw[GL _ _ _ _ _ _ _ _ (by show 0<=0+fr.jC;omega) (by show 0+fr.jC+1<=_;omega),D6];simp[Ld,slotsOf,Hx.shape]
 have ht:D9 (fr.is++[⟨0,[]⟩]) tY:=t1.append (by rw[e1];exact⟨(CX _ _ _ _ _ _ _),rfl,OI,trivial⟩);have hst:xQ (Hx.bytes (jU (fr.is++[⟨0,[]⟩]))) tY.pos.toNat (jU (fr.is++[⟨0,[]⟩])):=⟨[],by simp[tY]⟩;have hlen:(fr.is++[(⟨0,[]⟩:I)]).length<=(Hx.bytes (jU (fr.is++[⟨0,[]⟩]))).length:=by
  rw[Lm];have:∀is:List I,is.length<=(jU is).length:=by
   intro is;induction is with
   |nil=>simp
   |cons i is ih=>
    rw[ny,aA,aF];have:0<(enc i).length:=by simp[enc]
    omega
  exact this _
 have hgo:mG (Hx.bytes (jU (fr.is++[⟨0,[]⟩])))=⟨0+(jU fr.is).length+(enc ⟨0,[]⟩).length,fr.jB 0 []++[⟨1,0,0,0,0,0,0⟩],[],[],sQ fr.is 8,fr.jC+1,false⟩:=by
  unfold mG;obtain⟨f,hf⟩:∃f,(Hx.bytes (jU (fr.is++[⟨0,[]⟩]))).length+1=(f+1)+(fr.is++[(⟨0,[]⟩:I)]).length:=⟨(Hx.bytes (jU (fr.is++[⟨0,[]⟩]))).length-(fr.is++[(⟨0,[]⟩:I)]).length,by omega⟩;rw[hf,ade _ _ _ (aV 0) ht hst,dV,e1];refine(congrArg (λq=>uX (Hx.bytes (jU (fr.is++[⟨0,[]⟩]))) (f+1) q) hend).trans ?_;unfold uX;rw[jh (jf rfl)]
 rw[hgo];refine⟨?_,rfl,rfl,rfl⟩;unfold wU;rw[hgo,Lm];simp only[Bool.not_false,Bool.and_true,dD,decide_eq_true_eq];refine⟨hl,?_⟩;rw[nN,aA,ny,mF,aX,Int.zero_add,iC]
section
variable {v:Vw}{S:List St}{jF:List Int}{k k' k2:Nat}{m m' m2:Mc}{o:Out}
def Reaches(v:Vw)(S:List St)(jF:List Int)(k:Nat)(m:Mc)(k':Nat)(m':Mc):Prop:=∃n,∀f,Hx.runs v S jF (f+n) k m=Hx.runs v S jF f k' m'
def C9(v:Vw)(S:List St)(jF:List Int)(k:Nat)(m:Mc)(o:Out):Prop:=∃n,∀f,Hx.runs v S jF (f+n) k m=o
theorem Reaches.refl(v:Vw)(S:List St)(jF:List Int)(k:Nat)(m:Mc):Reaches v S jF k m k m:=⟨0,λ_=>rfl⟩
theorem Reaches.trans(h:Reaches v S jF k m k' m')(h2:Reaches v S jF k' m' k2 m2):Reaches v S jF k m k2 m2:=by
 obtain⟨a,ha⟩:=h;obtain⟨b,hb⟩:=h2;exact⟨b+a,λf=>by rw[<-fE,ha,hb]⟩
theorem Reaches.stops(h:Reaches v S jF k m k' m')(h2:C9 v S jF k' m' o):C9 v S jF k m o:=by
 obtain⟨a,ha⟩:=h;obtain⟨b,hb⟩:=h2;exact⟨b+a,λf=>by rw[<-fE,ha,hb]⟩
theorem Aw{s:St}(hs:S[k]? =some s)(h:Hx.step v S jF k s m=.inr ((k':Int),m')):Reaches v S jF k m k' m':=
 ⟨1,λf=>by simp only[Hx.runs,bK,hs,h]⟩
theorem WT{s:St}(hs:S[k]? =some s)(h:Hx.step v S jF k s m=.inl o):C9 v S jF k m o:=
 ⟨1,λf=>by simp only[Hx.runs,bK,hs,h]⟩
def uz(S:List St)(k:Nat)(xs:List St):Prop:=∀(j:Nat)(s:St),xs[j]? =some s->S[k+j]? =some s
theorem uz.left{xs ys:List St}(h:uz S k (xs++ys)):uz S k xs:=λj s hj=>h j s (by rw[aT (List.getElem?_eq_some_iff.1 hj).1];exact hj)
theorem uz.right{xs ys:List St}{n:Nat}(h:uz S k (xs++ys))(hn:xs.length=n):uz S (k+n) ys:=λj s hj=>by
 rw[fE];exact h (n+j) s (by rw[<-hn,bW (by omega),Nat.add_sub_cancel_left];exact hj)
theorem uz.head{x:St}{xs:List St}(h:uz S k (x::xs)):S[k]? =some x:=h 0 x rfl
theorem uz.tail{x:St}{xs:List St}(h:uz S k (x::xs)):uz S (k+1) xs:=λj s hj=>by
 rw[fE];exact h (1+j) s (by rw[Nat.add_comm 1 j];exact hj)
theorem Dx(m:Mc)(i x:Int):(m.put i x).jD.length=m.jD.length:=by simp[Mc.put]
theorem aeW(m:Mc)(i x:Int):(m.lX i x).left.length=m.left.length:=by simp[Mc.lX]
theorem vN(m:Mc)(i x:Int)(h0:0<=i)(h1:i<m.jD.length):(m.put i x).get i=x:=by
 have:i.toNat<m.jD.length:=by omega
 simp[Mc.put,Mc.get,this]
theorem BQ(m:Mc)(i j x:Int)(h0:0<=i)(h1:0<=j)(h:i≠j):(m.put j x).get i=m.get i:=by
 have:j.toNat≠i.toNat:=by omega
 simp[Mc.put,Mc.get,aU,dQ this]
theorem P5(m:Mc)(i:Nat)(x:Int)(h:i<m.left.length):(m.lX (i:Int) x).ni i=x:=by simp[Mc.lX,Mc.ni,h]
theorem PZ(m:Mc)(i j:Nat)(x:Int)(h:i≠j):(m.lX (j:Int) x).ni i=m.ni i:=by
 simp[Mc.lX,Mc.ni,aU,dQ (λe=>h e.symm)]
structure oP(free into:Int)(d:Nat)(m m':Mc):Prop where
 len:m'.jD.length=m.jD.length
 uV:m'.left.length=m.left.length
 jO:m'.jO=m.jO
 jD:∀i,0<=i->i<free->i≠into->m'.get i=m.get i
 left:∀j:Nat,j<d->m'.ni j=m.ni j
theorem oP.refl(free into:Int)(d:Nat)(m:Mc):oP free into d m m:=⟨rfl,rfl,rfl,λ_ _ _ _=>rfl,λ_ _=>rfl⟩
theorem oP.trans{free into:Int}{d:Nat}(h:oP free into d m m')(h2:oP free into d m' m2):oP free into d m m2:=
 ⟨h2.len.trans h.len,h2.uV.trans h.uV,h2.jO.trans h.jO,λi a b c=>(h2.jD i a b c).trans (h.jD i a b c),λj hj=>(h2.left j hj).trans (h.left j hj)⟩
theorem oP.less{free free' into aco:Int}{d d':Nat}(h:oP free into d m m')(h1:free'<=free)(h2:into=aco\/into<0\/free'<=into)(h3:d'<=d):oP free' aco d' m m':=
 ⟨h.len,h.uV,h.jO,λi a b c=>h.jD i a (by omega) (by omega),λj hj=>h.left j (by omega)⟩
theorem yj{free into j x:Int}{d:Nat}(h:j=into\/free<=j)(h0:0<=j):oP free into d m (m.put j x):=
 ⟨Dx _ _ _,rfl,rfl,λi a b c=>BQ m i j x a h0 (by omega),λ_ _=>rfl⟩
theorem yB{i:I}(hs:S[k]? =some (stepOf i))(h6:6<=i.o)(G5:i.o≠36):Reaches v S jF k m (k+1) (work v (stepOf i) m):=by
 refine Aw hs ?_;unfold Hx.step;rw[jg (by show¬i.o=1;omega),jg (by show¬i.o=2;omega),jg (by show¬i.o=3;omega),jg (by show¬i.o=4;omega),jg (by show¬i.o=5;omega),jg (by show¬i.o=0;omega),jg (by exact G5)]
 rfl
def GH:List UInt8->List Int->Int->Prop
 |c::cs,n::ns,b=>(c=115->n+1<=b)/\GH cs ns b
 |_,_,_=>True
def lG(is:List I)(b:Int):Prop:=∀i∈is,GH (Hx.shape i.o) i.ns b
theorem Hz:∀{cs:List UInt8}{ns:List Int}{b b':Int},GH cs ns b->b<=b'->GH cs ns b'
 |[],_,_,_,_,_=>trivial
 |_::_,[],_,_,_,_=>trivial
 |_::_,_::_,_,_,⟨h1,h2⟩,hb=>⟨λe=>fD (h1 e) hb,Hz h2 hb⟩
theorem U9:∀{cs:List UInt8}{ns:List Int}{b:Int},(∀n∈ns,n+1<=b)->GH cs ns b
 |[],_,_,_=>trivial
 |_::_,[],_,_=>trivial
 |_::_,_::_,_,h=>⟨λ_=>h _ (aW ..),U9 λx hx=>h x (aI _ hx)⟩
theorem lG.nil(b:Int):lG [] b:=λ_ h=>jl h (by simp)
theorem lG.append{a c:List I}{b:Int}(h:lG a b)(k:lG c b):lG (a++c) b:=λi hi=>(List.mem_append.1 hi).elim (h i) (k i)
theorem lG.wide{a:List I}{b b':Int}(h:lG a b)(hb:b<=b'):lG a b':=λi hi=>Hz (h i hi) hb
theorem lG.one{i:I}{b:Int}(h:GH (Hx.shape i.o) i.ns b):lG [i] b:=λj hj=>by rw[cO.1 hj];exact h
theorem WO:∀(cs:List UInt8)(ns:List Int)(sl:Int),sl<=slotsOf cs ns sl
 |[],_,_=>aV _
 |_::_,[],_=>aV _
 |c::cs,n::ns,sl=>by
  unfold slotsOf;refine fD ?_ (WO cs ns _);split<;>omega
theorem WM:∀(is:List I)(sl:Int),sl<=sQ is sl
 |[],_=>aV _
 |_::is,_=>fD (WO _ _ _) (WM is _)
theorem adn:∀(cs:List UInt8)(ns:List Int)(sl:Int),GH cs ns (slotsOf cs ns sl)
 |[],_,_=>trivial
 |_::_,[],_=>trivial
 |c::cs,n::ns,sl=>by
  unfold slotsOf;refine⟨λe=>?_,adn cs ns _⟩;have:=WO cs ns (if c=115 then max sl (n+1)else sl);rw[jh e]at this⊢;omega
theorem ado:∀(is:List I)(sl:Int),lG is (sQ is sl)
 |[],_=>lG.nil _
 |i::is,sl=>by
  intro j hj;rcases dh.1 hj with rfl|hj
  .exact Hz (adn _ _ sl) (WM is _)
  .exact ado is _ j hj
theorem lG.left{a c:List I}{b:Int}(h:lG (a++c) b):lG a b:=λi hi=>h i (eP _ hi)
theorem lG.right{a c:List I}{b:Int}(h:lG (a++c) b):lG c b:=λi hi=>h i (List.mem_append_right _ hi)
end
end
namespace Hx
open Go.RowKit
abbrev sV:=jk->Nat->Nat->jm->Prop
structure Lawful(E:sV):Prop where
 loc:∀w w' lo hi v,E w lo hi v->(∀b,lo<=b->b<hi->w'.heap[b]? =w.heap[b]?)->E w' lo hi v
 wide:∀w lo hi lo' hi' v,E w lo hi v->lo'<=lo->hi<=hi'->E w lo' hi' v
abbrev Kids:=jk->Nat->Nat->List jm->Prop
structure yK(K:Kids):Prop where
 loc:∀w w' lo hi us,K w lo hi us->(∀b,lo<=b->b<hi->w'.heap[b]? =w.heap[b]?)->K w' lo hi us
 wide:∀w lo hi lo' hi' us,K w lo hi us->lo'<=lo->hi<=hi'->K w lo' hi' us
def y9:Kids:=λ_ _ _ us=>us=[]
def og(E:sV):Kids:=λw lo hi us=>∃u,us=[u]/\E w lo hi u
def xY(E F:sV):Kids:=λw lo hi us=>∃m u v,us=[u,v]/\lo<=m/\m<=hi/\E w lo m u/\F w m hi v
theorem Cc:yK y9:=⟨λ_ _ _ _ _ h _=>h,λ_ _ _ _ _ _ h _ _=>h⟩
theorem qW{E:sV}(h:Lawful E):yK (og E):=
 ⟨λ_ _ _ _ _ ⟨u,e,hu⟩ hk=>⟨u,e,h.loc _ _ _ _ _ hu hk⟩,λ_ _ _ _ _ _ ⟨u,e,hu⟩ h1 h2=>⟨u,e,h.wide _ _ _ _ _ _ hu h1 h2⟩⟩
theorem wJ{E F:sV}(h:Lawful E)(k:Lawful F):yK (xY E F):=
 ⟨λ_ _ _ _ _ ⟨m,u,v,e,h1,h2,hu,hv⟩ hk=>⟨m,u,v,e,h1,h2,h.loc _ _ _ _ _ hu (λb b1 b2=>hk b b1 (by omega)),k.loc _ _ _ _ _ hv (λb b1 b2=>hk b (by omega) b2)⟩,
  λ_ _ _ _ _ _ ⟨m,u,v,e,h1,h2,hu,hv⟩ l1 l2=>⟨m,u,v,e,by omega,by omega,h.wide _ _ _ _ _ _ hu l1 (aj _),k.wide _ _ _ _ _ _ hv (aj _) l2⟩⟩
structure Ex where
 at':Int
 jw:Int
 here:Int->sV
 does:Dn
end Hx
section
open Go.RowKit Hx
attribute [local go_sem ↓] Go.wp_at_zero Go.wp_at_succ
attribute [local go_sem] kP
def lU(T:jo):Prop:=T∈[405,392,386,389,395,379,374,383,398,410,413]
theorem lU.rZ{T:jo}(h:lU T)(A:Nat)(w:jk):(method 576 T (Pt A 0) "helm/lang.price").run prog w=.ok (244,Pt A 0) w:=by
 simp only[lU,dh,dU,or_false]at h;rcases h with rfl|rfl|rfl|rfl|rfl|rfl|rfl|rfl|rfl|rfl|rfl<;>kernel_rfl
theorem lU.widen{T:jo}(h:lU T)(A:Nat)(w:jk):(method 576 T (Pt A 0) "helm/lang.widen").run prog w=.ok (357,Pt A 0) w:=by
 simp only[lU,dh,dU,or_false]at h;rcases h with rfl|rfl|rfl|rfl|rfl|rfl|rfl|rfl|rfl|rfl|rfl<;>kernel_rfl
theorem lU.sort{T:jo}(h:lU T)(A:Nat)(w:jk):(method 576 T (Pt A 0) "helm/lang.sort").run prog w=.ok (356,Pt A 0) w:=by
 simp only[lU,dh,dU,or_false]at h;rcases h with rfl|rfl|rfl|rfl|rfl|rfl|rfl|rfl|rfl|rfl|rfl<;>kernel_rfl
theorem lU.place{T:jo}(h:lU T)(A:Nat)(w:jk):(method 576 T (Pt A 0) "helm/lang.place").run prog w=.ok (312,Pt A 0) w:=by
 simp only[lU,dh,dU,or_false]at h;rcases h with rfl|rfl|rfl|rfl|rfl|rfl|rfl|rfl|rfl|rfl|rfl<;>kernel_rfl
structure kV(e:Ex):Prop where
 law:∀a,Lawful (e.here a)
 head:∀a w lo hi v,e.here a w lo hi v->∃T b,v=.iface T (Pt b 0)/\lU T/\lo<=b/\b<hi/\w.cell? (Ad b 0)=some (Im a)/\w.cell? (Ad b 1)=some (Im e.jw)/\∀j,w.frozen? (Ad b j)=false
 widen:∀a a' w lo hi T b,e.here a w lo hi (.iface T (Pt b 0))->e.here a' (w.setCell (Ad b 0) (Im a')) lo hi (.iface T (Pt b 0))
 jw:0<=e.jw/\e.jw<=1000001
def rE(T' T:jo)(at' jw kind:Int)(K:Hx.Kids)(mk:List jm->List jm)(dn:Dn:={}):Ex:=
 ⟨at',jw,λa w lo hi v=>∃b us,v=.iface T' (Pt b 0)/\lo<=b/\b<hi/\K w lo b us/\w.heap[b]? =some (.cells (Im a::Im jw::Im kind::mk us).toArray T),dn⟩
theorem vV{T' T:jo}{at' jw kind:Int}{K:Hx.Kids}{mk:List jm->List jm}{dn:Dn}(hT:lU T')(hK:yK K)(hc:0<=jw/\jw<=1000001):kV (rE T' T at' jw kind K mk dn):=by
 refine⟨λa=>⟨?_,?_⟩,?_,?_,hc⟩
 .rintro w w' lo hi v ⟨b,us,hv,h1,h2,h3,h4⟩ hk;exact⟨b,us,hv,h1,h2,hK.loc _ _ _ _ _ h3 (λb' b1 b2=>hk b' b1 (by omega)),(hk b h1 h2).trans h4⟩
 .rintro w lo hi lo' hi' v ⟨b,us,hv,h1,h2,h3,h4⟩ l1 l2;exact⟨b,us,hv,by omega,by omega,hK.wide _ _ _ _ _ _ h3 l1 (aj _),h4⟩
 .rintro a w lo hi v ⟨b,us,hv,h1,h2,h3,h4⟩;exact⟨T',b,hv,hT,h1,h2,jI h4,jI h4,λj=>oQ h4⟩
 .rintro a a' w lo hi T1 b1 ⟨b,us,hv,h1,h2,h3,h4⟩;cases hv;refine⟨b1,us,rfl,h1,h2,hK.loc _ _ _ _ _ h3 (λb' _ b2=>bC _ _ _ _ (by simp only;omega)),?_⟩;exact aK _ _ _ _ _ _ h4
end
namespace Hx
open Go.RowKit
structure Sx where
 at':Int
 jw:Int
 base:ji
 of:Int
 jE:List (Wd×Ex)
def Om(d:Wd)(v:jm):List jm:=[.string d.text,Im d.at',v]
def uS(g:Nat):List (Wd×Ex)->jk->Nat->Nat->List jm->Prop
 |[],_,_,_,us=>us=[]
 |b::bs,w,lo,hi,us=>∃l m u us',us=u::us'/\lo<=l/\l<=m/\m<=hi/\(g<l\/m<=g)/\b.2.here b.2.at' w l m u/\uS g bs w m hi us'
def xq:List (Wd×Ex)->List jm->List jm
 |b::bs,u::us=>Om b.1 u++xq bs us
 |_,_=>[]
def ari(T:jo)(x:Sx)(S:Nat)(w:jk)(lo hi:Nat)(fv:jm):Prop:=
 (x.jE=[]/\fv=Nl)\/
 ∃g cap m us arr,fv=.slice (some (Ad g 0)) x.jE.length cap/\S<g/\g<hi/\lo<=m/\S<m/\uS g x.jE w m hi us/\w.heap[g]? =some (.cells arr T)/\
  ∀(j:Nat)(v:jm),(xq x.jE us)[j]? =some v->arr[j]? =some v
def afL(T T2:jo)(x:Sx):sV:=λw lo hi v=>
 ∃S fv,v=Pt S 0/\lo<=S/\S<hi/\w.heap[S]? =some (.cells #[Im x.at',Im x.jw,.string x.base,Im x.of,fv] T)/\ari T2 x S w lo hi fv
theorem Fv{g:Nat}:∀{bs:List (Wd×Ex)}{w w':jk}{lo hi:Nat}{us:List jm},(∀b∈bs,∀a,Lawful (b.2.here a))->uS g bs w lo hi us->(∀b,lo<=b->b<hi->w'.heap[b]? =w.heap[b]?)->uS g bs w' lo hi us
 |[],_,_,_,_,_,_,h,_=>h
 |b::bs,_,_,_,_,_,hl,⟨l,m,u,us',h0,h1,h2,h3,h4,h5,h6⟩,hk=>
  ⟨l,m,u,us',h0,h1,h2,h3,h4,(hl b (aW ..) _).loc _ _ _ _ _ h5 (λk k1 k2=>hk k (by omega) (by omega)),Fv (λc hc=>hl c (aI _ hc)) h6 (λk k1 k2=>hk k (by omega) k2)⟩
theorem Ou{g:Nat}:∀{bs:List (Wd×Ex)}{w:jk}{lo hi hi':Nat}{us:List jm},uS g bs w lo hi us->hi<=hi'->uS g bs w lo hi' us
 |[],_,_,_,_,_,h,_=>h
 |_::_,_,_,_,_,_,⟨l,m,u,us',h0,h1,h2,h3,h4,h5,h6⟩,hh=>⟨l,m,u,us',h0,h1,h2,by omega,h4,h5,Ou h6 hh⟩
theorem aal{g:Nat}:∀{bs:List (Wd×Ex)}{w:jk}{lo l m hi:Nat}{us:List jm}{b:Wd×Ex}{u:jm},uS g bs w lo l us->b.2.here b.2.at' w l m u->lo<=l->l<=m->m<=hi->(g<l\/m<=g)->uS g (bs++[b]) w lo hi (us++[u])
 |[],_,_,l,m,_,us,b,u,h,hb,h1,h2,h3,hg=>by
  have h:us=[]:=h;subst h;exact⟨l,m,u,[],rfl,h1,h2,h3,hg,hb,rfl⟩
 |_::_,_,_,_,_,_,_,_,u,⟨l',m',v,us',h0,h1,h2,h3,h4,h5,h6⟩,hb,k1,k2,k3,hg=>by
  subst h0;exact⟨l',m',v,us'++[u],rfl,h1,h2,by omega,h4,h5,aal h6 hb h3 k2 k3 hg⟩
theorem aak{g g':Nat}:∀{bs:List (Wd×Ex)}{w:jk}{lo hi:Nat}{us:List jm},uS g bs w lo hi us->hi<=g'->uS g' bs w lo hi us
 |[],_,_,_,_,h,_=>h
 |_::_,_,_,_,_,⟨l,m,u,us',h0,h1,h2,h3,_,h5,h6⟩,hh=>⟨l,m,u,us',h0,h1,h2,h3,je (by omega),h5,aak h6 hh⟩
theorem NJ{T T2:jo}{x:Sx}(hl:∀b∈x.jE,∀a,Lawful (b.2.here a)):Lawful (afL T T2 x):=by
 constructor
 .rintro w w' lo hi v ⟨S,fv,hv,h1,h2,h3,h4⟩ hk;refine⟨S,fv,hv,h1,h2,(hk S h1 h2).trans h3,?_⟩;rcases h4 with h4|⟨g,cap,m,us,arr,k1,k2,k3,k4,k5,k6,k7,k8⟩
  .exact jf h4
  .exact je ⟨g,cap,m,us,arr,k1,k2,k3,k4,k5,Fv hl k6 (λb b1 b2=>hk b (by omega) b2),(hk g (by omega) k3).trans k7,k8⟩
 .rintro w lo hi lo' hi' v ⟨S,fv,hv,h1,h2,h3,h4⟩ l1 l2;refine⟨S,fv,hv,by omega,by omega,h3,?_⟩;rcases h4 with h4|⟨g,cap,m,us,arr,k1,k2,k3,k4,k5,k6,k7,k8⟩
  .exact jf h4
  .exact je ⟨g,cap,m,us,arr,k1,k2,by omega,by omega,k5,Ou k6 l2,k7,k8⟩
end Hx
section
open Go.RowKit Hx
section
def oW(x:Sx):sV:=afL 348 361 x
def oz(of:Int)(fs:List (Wd×Ex))(c:Ck):Ck:=fs.foldl (λc b=>c.bracket b.1.text b.1.at' b.2.does b.2.at' of 2) c
def jP(base:ji):Int:=if base.data.toList==[70,82,69,83,72]then 1 else if base.data.toList==[65,71,65,73,78]then 2 else 0
def Hx.Co.jE(one:Int)(fs:List (Wd×Ex))(c:Co):Co:=fs.foldl (λc b=>((c.inside b.1.text b.2.does one).1.lay 5 [(c.inside b.1.text b.2.does one).2]).jX c.free) c
def Hx.Co.jZ(c:Co)(list:Int)(fs:List (Wd×Ex)):Co×Int:=(Co.jE c.hold.2 fs ((c.hold.1.lay 21 [c.hold.2,list]).lay 4 [list,c.hold.2,c.hold.2]),c.hold.2)
def Hx.Co.nk(c:Co)(list:Int)(fs:List (Wd×Ex)):Co×Int:=
 if fs.length=0 then (c.hold.1.lay 21 [c.hold.2,list],c.hold.2)
 else
  let o:=(c.hold.1.lay 6 [c.hold.2,0]).jZ list fs
  (((o.1.lay 22 [c.hold.2,o.2]).lay 0 []).jX (wrap64 (c.hold.2+1)),c.hold.2)
def wO(n:Int)(c:Co)(into:Int):Co×Int:=((c.choose into).1.lay 6 [(c.choose into).2,n],(c.choose into).2)
def Gm(b:Bool)(c:Co)(into:Int):Co×Int:=((c.choose into).1.lay 6 [(c.choose into).2,if b then 1 else 0],(c.choose into).2)
def sF(kind is:Int):oM:=if kind=2 then {tag:=2,val:=if is=0 then 0 else 1,give:=Gm (decide (is≠0))}else {tag:=1,val:=is,give:=wO is}
def Hx.oM.known(f:oM):Bool:=f.tag==1||f.tag==2
def Hx.oM.lq(f:oM)(b:Bool):Bool:=f.tag==2&&f.val==(if b then 1 else 0)
def ug(kind:Int)(sign:ji)(f:oM):oM:=
 if f.tag=1 then sF kind (wrap64 (-f.val))else if f.tag=2 then sF kind (if f.val=0 then 1 else 0)
 else if f.tag=3 then {give:=f.sub}else {tag:=3,give:=λc into=>c.one (if sign.data.toList==[45]then 8 else 9) into f.dn,sub:=f.give}
def CJ(kind:Int)(sign:ji)(l r:oM):oM:=
 let o:=if sign.data.toList==[62]then 15 else if sign.data.toList==[62,61]then 16 else vC sign.data.toList
 let sw:=sign.data.toList==[62]||sign.data.toList==[62,61]
 if l.known&&r.known then sF kind (if sw then two o r.val l.val else two o l.val r.val)
 else if (o==19||o==20)&&(l.lq (o==20)||r.lq (o !=20))then l
 else if (o==19||o==20)&&(r.lq (o==20)||l.lq (o !=20))then r
 else {give:=λc into=>if sw then c.two o into r.dn l.dn else c.two o into l.dn r.dn}
def Hx.Sx.fold(x:Sx):List (Wd×Ex):=(x.jE.filter λb=>!(b.2.does.fd.lq true)).map λb=>(b.1,{b.2 with does:=b.2.does.fd.dn})
def adS(n:Int):Dn:=⟨λ_=>1,λc=>c,λc into=>((c.choose into).1.lay 6 [(c.choose into).2,n],(c.choose into).2),{tag:=1,val:=n,give:=wO n}⟩
def agI(kind:Int)(b:Bool):Dn:=⟨λ_=>kind,λc=>c,λc into=>((c.choose into).1.lay 6 [(c.choose into).2,if b then 1 else 0],(c.choose into).2),{tag:=2,val:=if b then 1 else 0,give:=Gm b}⟩
def aqM(i:Int):Dn:=⟨λ_=>1,λc=>c,λc _=>(c,i),{give:=λc _=>(c,i)}⟩
def atN(d:Wd):Dn:=⟨λns=>(lJ ns d.text).kind,λc=>if (lJ c.jy d.text).kind=0 then c.fail 2 d.at' else c,λc _=>(c,c.wu d.text),{give:=λc _=>(c,c.wu d.text)}⟩
def acy(e:Ex):Dn:=⟨λ_=>2,λc=>if e.does.jW c.jy=3 then e.does.look c else (e.does.look c).want (e.does.jW c.jy) e.at' 4,λc into=>c.one 27 into e.does,{give:=λc into=>c.one 27 into e.does.fd.dn}⟩
def ad4(kind:Int)(sign:ji)(e:Ex):Dn:=⟨λ_=>kind,λc=>(e.does.look c).want (e.does.jW c.jy) e.at' kind,λc into=>c.one (if sign.data.toList==[45]then 8 else 9) into e.does,ug kind sign e.does.fd⟩
def ra(sign:ji)(left:Int):Int:=if (kE sign.data.toList).1=0 then (if left=2 then 2 else 1)else (kE sign.data.toList).1
def Xe(kind:Int)(sign:ji)(l r:Ex):Dn:=
 ⟨λ_=>kind,
  λc=>
   let side:=ra sign (l.does.jW c.jy)
   let c1:=(l.does.look c).want (l.does.jW c.jy) l.at' side
   (r.does.look c1).want (r.does.jW c1.jy) r.at' side,
  λc into=>if sign.data.toList==[62]then c.two 15 into r.does l.does else if sign.data.toList==[62,61]then c.two 16 into r.does l.does else c.two (vC sign.data.toList) into l.does r.does,
  CJ kind sign l.does.fd r.does.fd⟩
def aeL(kind owner:Int)(e:Ex)(d:Wd):Dn:=
 ⟨λ_=>kind,λc=>(if owner=0 then (e.does.look c).fail 2 d.at' else e.does.look c).want (e.does.jW c.jy) e.at' owner,λc into=>c.one (xC d.text.data.toList) into e.does,{give:=λc into=>c.one (xC d.text.data.toList) into e.does.fd.dn}⟩
def adY(l r:Ex):Dn:=
 ⟨λ_=>2,
  λc=>
   let c1:=(l.does.look c).want (l.does.jW c.jy) l.at' 4
   (r.does.look c1).want (r.does.jW c1.jy) r.at' 3,
  λc into=>c.two 35 into l.does r.does,{give:=λc into=>c.two 35 into l.does.fd.dn r.does.fd.dn}⟩
def ZH(kind:Int)(what:ji)(x:Sx):Dn:=
 ⟨λ_=>kind,oz x.of x.jE,
  λc into=>
   let f:=c.nk (jP x.base) x.jE
   let k:=(f.1.jX c.free).choose into
   (k.1.lay (if what.data.toList==[99,111,117,110,116]then 23 else 24) [k.2,f.2],k.2),
  {give:=λc into=>
    let f:=c.nk (jP x.base) x.fold
    let k:=(f.1.jX c.free).choose into
    (k.1.lay (if what.data.toList==[99,111,117,110,116]then 23 else 24) [k.2,f.2],k.2)}⟩
def yE(kind:Int)(what:ji)(x:Sx)(b:Wd×Ex):Dn:=
 ⟨λ_=>kind,
  λc=>(oz x.of x.jE c).bracket b.1.text b.1.at' b.2.does b.2.at' x.of (if what.data.toList==[97,110,121]then 2 else 1),
  λc _=>
   let answer:=c.hold.2
   let best:=c.hold.1.hold.2
   let o:=(c.hold.1.hold.1.lay 6 [answer,if kind=3\/kind=4 then -1 else 0]).jZ (jP x.base) x.jE
   let i:=o.1.inside b.1.text b.2.does o.2
   let m:=if what.data.toList==[109,105,110]then i.1.lay 25 [answer,best,o.2,i.2]else if what.data.toList==[109,97,120]then i.1.lay 26 [answer,best,o.2,i.2]
    else if what.data.toList==[115,117,109]then i.1.lay 10 [answer,answer,i.2]else if what.data.toList==[97,110,121]then i.1.lay 20 [answer,answer,i.2]else i.1
   ((m.lay 0 []).jX (wrap64 (answer+1)),answer),
  {give:=λc _=>
    let answer:=c.hold.2
    let best:=c.hold.1.hold.2
    let o:=(c.hold.1.hold.1.lay 6 [answer,if kind=3\/kind=4 then -1 else 0]).jZ (jP x.base) x.fold
    let i:=o.1.inside b.1.text b.2.does.fd.dn o.2
    let m:=if what.data.toList==[109,105,110]then i.1.lay 25 [answer,best,o.2,i.2]else if what.data.toList==[109,97,120]then i.1.lay 26 [answer,best,o.2,i.2]
     else if what.data.toList==[115,117,109]then i.1.lay 10 [answer,answer,i.2]else if what.data.toList==[97,110,121]then i.1.lay 20 [answer,answer,i.2]else i.1
    ((m.lay 0 []).jX (wrap64 (answer+1)),answer)}⟩
def kN(at' n:Int):Ex:=rE 405 407 at' 1 1 y9 (λ_=>[Im n]) (adS n)
def zY(at' jw kind:Int)(b:Bool):Ex:=rE 392 394 at' jw kind y9 (λ_=>[.bool b]) (agI kind b)
def wQ(at' i:Int):Ex:=rE 386 388 at' 1 1 y9 (λ_=>[Im i]) (aqM i)
def oZ(at':Int)(d:Wd):Ex:=⟨at',1,λa w lo hi v=>∃k,(rE 389 391 at' 1 k y9 (λ_=>[.string d.text,Im d.at'])).here a w lo hi v,atN d⟩
def yZ(at':Int)(e:Ex):Ex:=rE 395 397 at' (jR [e.jw]) 2 (og (e.here e.at')) (λus=>us) (acy e)
def oV(at' kind:Int)(sign:ji)(e:Ex):Ex:=rE 379 381 at' (jR [e.jw]) kind (og (e.here e.at')) (λus=>.string sign::us) (ad4 kind sign e)
def kK(at' kind:Int)(sign:ji)(l r:Ex):Ex:=rE 374 376 at' (jR [l.jw,r.jw]) kind (xY (l.here l.at') (r.here r.at')) (λus=>.string sign::us) (Xe kind sign l r)
def vY(at' kind owner:Int)(e:Ex)(d:Wd):Ex:=rE 383 385 at' (jR [e.jw]) kind (og (e.here e.at')) (λus=>Im owner::us++[.string d.text,Im d.at']) (aeL kind owner e d)
def x9(at':Int)(l r:Ex):Ex:=rE 398 400 at' (jR [l.jw,r.jw]) 2 (xY (l.here l.at') (r.here r.at')) (λus=>us) (adY l r)
def xR(kind:Int)(what:ji)(x:Sx):Ex:=rE 410 412 x.at' (jR [x.jw]) kind (og (oW x)) (λus=>.string what::us) (ZH kind what x)
def Hx.Sx.round(x:Sx)(c:Int):Int:=lu [(if x.of=3 then 8 else 16) * lu [1,c]]
def uY(kind:Int)(what:ji)(x:Sx)(b:Wd×Ex):Ex:=
 rE 413 415 x.at' (jR [x.jw,x.round b.2.jw]) kind (xY (oW x) (b.2.here b.2.at')) (λus=>.string what::(us.take 1++[.string b.1.text,Im b.1.at']++us.drop 1)) (yE kind what x b)
def rF:Ex:=zY 0 0 0 false
def Hx.Ex.widen(e:Ex)(a:Int):Ex:={e with at':=a}
def Hx.Sx.add(x:Sx)(b:Wd×Ex):Sx:={x with jE:=x.jE++[b],jw:=lu [x.jw,x.round b.2.jw]}
namespace Hx
section
variable (s:ji)(ex:Ps->Ex×Ps)
def Dq(p:Ps):Ex×Ps:=((ex (p.jZ s [40])).1,(ex (p.jZ s [40])).2.close s [41])
def vW(at':Int)(e:Ex)(p:Ps):Ex×Ps:=(x9 at' e (ex (p.jZ s [40])).1,(ex (p.jZ s [40])).2.close s [41])
def qP(p:Ps):(Wd×Ex)×Ps:=
 let d:=(p.jZ s [40]).name s
 let e:=ex (d.2.expect s [58])
 ((d.1,e.1),e.2.close s [41])
def vw:Nat->Sx->Ps->(Sx×Bool)×Ps
 |0,x,p=>((x,false),p)
 |n+1,x,p=>if p.is [46]then
   (if (p.next s).is [102,105,108,116,101,114]then vw n (x.add (qP s ex ((p.next s).next s)).1) (qP s ex ((p.next s).next s)).2 else ((x,true),p.next s))
  else ((x,false),p)
def oD(n:Nat)(p:Ps):(Sx×Bool)×Ps:=match setOf p.k.text.data.toList with
 |some of=>vw s ex n ⟨p.k.at',1,p.k.text,of,[]⟩ (p.next s)
 |none=>((⟨p.k.at',1,p.k.text,4,[]⟩,false),p.fail)
def Lf(x:Sx)(kind:Int)(p:Ps):Ex×Ps:=(xR kind p.k.text x,p.next s)
def FY(x:Sx)(kind:Int)(p:Ps):Ex×Ps:=(uY kind p.k.text x (qP s ex (p.next s)).1,(qP s ex (p.next s)).2)
def Ih(x:Sx)(p:Ps):Ex×Ps:=
 if p.is [99,111,117,110,116]then Lf s x 1 p else if p.is [102,105,114,115,116]then Lf s x x.of p else if p.is [109,105,110]||p.is [109,97,120]then FY s ex x x.of p
 else if p.is [115,117,109]then FY s ex x 1 p else if p.is [97,110,121]then FY s ex x 2 p else (rF,p.fail)
def AY(n:Nat)(p:Ps):Ex×Ps:=if (oD s ex n p).1.2 then Ih s ex (oD s ex n p).1.1 (oD s ex n p).2 else (rF,(oD s ex n p).2.fail)
def sZ(n:Nat)(p:Ps):Ex×Ps:=
 if p.k.kind=3 then (kN p.k.at' ((Lib.atoi p.k.text.data.toList).getD 0),p.next s)
 else if p.k.kind=4 then (wQ p.k.at' ((p.k.text.data.toList.getD 1 0).toNat-48),p.next s)
 else if p.k.kind=2 then (oZ p.k.at' ⟨p.k.text,p.k.at'⟩,p.next s)
 else if p.is [116,114,117,101]||p.is [102,97,108,115,101]then (zY p.k.at' 1 2 (p.is [116,114,117,101]),p.next s)
 else if p.is [40]then ((Dq s ex p).1.widen p.k.at',(Dq s ex p).2)
 else if p.is [105,115,110,111,110,101]then (yZ p.k.at' (Dq s ex (p.next s)).1,(Dq s ex (p.next s)).2)
 else if (setOf p.k.text.data.toList).isSome then AY s ex n p
 else (rF,p.fail)
def tk(at':Int):Nat->Ex->Ps->Ex×Ps
 |0,e,p=>(e,p)
 |n+1,e,p=>if p.is [46]then
   (let d:=(p.next s).name s
    if d.1.text.data.toList==[111,110]&&d.2.is [40]then tk at' n (vW s ex at' e d.2).1 (vW s ex at' e d.2).2
    else tk at' n (vY at' (pG d.1.text.data.toList).2 (pG d.1.text.data.toList).1 e d.1) d.2)
  else (e,p)
def Ak(n:Nat)(p:Ps):Ex×Ps:=tk s ex p.k.at' n (sZ s ex n p).1 (sZ s ex n p).2
def qG(n:Nat):Nat->Ps->Ex×Ps
 |0,p=>Ak s ex n p
 |m+1,p=>if p.is [45]then (oV p.k.at' 1 p.k.text (qG n m (p.next s)).1,(qG n m (p.next s)).2)
  else if p.is [33]then (oV p.k.at' 2 p.k.text (qG n m (p.next s)).1,(qG n m (p.next s)).2)else Ak s ex n p
end
def rY(s:ji)(lower:Ps->Ex×Ps)(of:Int)(at':Int):Nat->Ex->Ps->Ex×Ps
 |0,e,p=>(e,p)
 |n+1,e,p=>if nO p.k.text.data.toList=of then
   (let r:=lower (p.next s)
    let e':=kK at' (kE p.k.text.data.toList).2 p.k.text e r.1
    if of=2\/of=3 then (e',r.2)else rY s lower of at' n e' r.2)
  else (e,p)
def qR(s:ji)(ex:Ps->Ex×Ps)(n:Nat):Nat->Ps->Ex×Ps
 |0,p=>qG s ex n n p
 |l+1,p=>rY s (qR s ex n l) (5-l) p.k.at' n (qR s ex n l p).1 (qR s ex n l p).2
def kT(s:ji):Nat->Ps->Ex×Ps
 |0,p=>(rF,p.fail)
 |d+1,p=>qR s (kT s d) (s.size+1) 6 p
end Hx
end
end
end Go.Proofs.YthllhabjfchgiaaGreatDoor
