import Derived.Test.YthllhabjfchgiaaGreatDoorHk44
set_option maxRecDepth 100000
set_option maxHeartbeats 8000000
set_option linter.unusedSimpArgs false
namespace Go.Proofs.YthllhabjfchgiaaGreatDoor
section
open Go.RowKit Hx
theorem atY:lF [38,38]=(19,false):=by kernel_rfl
theorem atZ:lF [124,124]=(20,false):=by kernel_rfl
theorem ajf:bits .and .i64 1 1=1:=by decide+kernel
theorem aje:bits .or .i64 0 0=0:=by decide+kernel
def AZ(i c:Int):lQ:=λ_ p=>.inr {p with jF:=sS p.jF i c}
theorem pq0(a:Nat->Int){x y:Int}(hx:jJ x)(hy:jJ y):∃t,t<=40/\QE t (mY (a 0) 0 (kK (a 2) (kE [42]).2 ⟨#[42]⟩ (kN (a 2) x) (kN (a 4) y))) (AZ 0 (wrap64 (x * y))):=⟨_,by decide,QE.eq (wC (qL (rX (a 2) x hx) (rX (a 4) y hy) (a 2) ⟨#[42]⟩) (a 0) 0 (by omega)) λv p=>by simp[AZ,outcome,two,ag7]⟩
theorem pq1(a:Nat->Int){x y:Int}(hx:jJ x)(hy:jJ y):∃t,t<=40/\QE t (mY (a 6) 1 (kK (a 8) (kE [47]).2 ⟨#[47]⟩ (oV (a 8) 1 ⟨#[45]⟩ (kN (a 9) x)) ((kK (a 12) (kE [45]).2 ⟨#[45]⟩ (kN (a 12) y) (kN (a 14) 5)).widen (a 11)))) (AZ 1 (quot (wrap64 (-x)) (wrap64 (y-5)))):=⟨_,by decide,QE.eq (wC (qL (Qk (rX (a 9) x hx) (a 8) ⟨#[45]⟩ rfl) (YP (qL (rX (a 12) y hy) (rX (a 14) 5 (by unfold jJ;omega)) (a 12) ⟨#[45]⟩) (a 11)) (a 8) ⟨#[47]⟩) (a 6) 1 (by omega)) λv p=>by simp[AZ,outcome,two,YQ,ag8]⟩
theorem pq2(a:Nat->Int){x:Int}(hx:jJ x):∃t,t<=40/\QE t (mY (a 17) 2 (kK (a 19) (kE [45]).2 ⟨#[45]⟩ (kK (a 19) (kE [43]).2 ⟨#[43]⟩ (kK (a 19) (kE [37]).2 ⟨#[37]⟩ (kN (a 19) x) (kN (a 21) 7)) (kN (a 23) 1)) (oV (a 25) 1 ⟨#[45]⟩ (kN (a 26) 2)))) (AZ 2 (wrap64 (wrap64 (rest x 7+1)-wrap64 (-2)))):=⟨_,by decide,QE.eq (wC (qL (qL (qL (rX (a 19) x hx) (rX (a 21) 7 (by unfold jJ;omega)) (a 19) ⟨#[37]⟩) (rX (a 23) 1 (by unfold jJ;omega)) (a 19) ⟨#[43]⟩) (Qk (rX (a 26) 2 (by unfold jJ;omega)) (a 25) ⟨#[45]⟩ rfl) (a 19) ⟨#[45]⟩) (a 17) 2 (by omega)) λv p=>by simp[AZ,outcome,two,Gq,YQ,ag9]⟩
theorem pq3(a:Nat->Int){x:Int}(hx:jJ x)(h0:0<=x):∃t,t<=60/\QE t (nY (a 28) (kK (a 29) (kE [124,124]).2 ⟨#[124,124]⟩ (oV (a 29) 2 ⟨#[33]⟩ ((kK (a 31) (kE [38,38]).2 ⟨#[38,38]⟩ (kK (a 31) (kE [60]).2 ⟨#[60]⟩ (kN (a 31) 1) (kN (a 33) 2)) (kK (a 35) (kE [62,61]).2 ⟨#[62,61]⟩ (kN (a 35) x) (kN (a 37) 0))).widen (a 30))) (kK (a 40) (kE [61,61]).2 ⟨#[61,61]⟩ (kN (a 40) 1) (kN (a 42) 2))) [(mY (a 44) 3 (kN (a 46) 1))] [(mY (a 51) 4 (kN (a 53) 3))]) (AZ 4 3):=⟨_,by decide,QE.eq (GU (qL (adQ (YP (qL (qL (rX (a 31) 1 (by unfold jJ;omega)) (rX (a 33) 2 (by unfold jJ;omega)) (a 31) ⟨#[60]⟩) (qL (rX (a 35) x hx) (rX (a 37) 0 (by unfold jJ;omega)) (a 35) ⟨#[62,61]⟩) (a 31) ⟨#[38,38]⟩) (a 30)) (a 29) ⟨#[33]⟩ rfl) (qL (rX (a 40) 1 (by unfold jJ;omega)) (rX (a 42) 2 (by unfold jJ;omega)) (a 40) ⟨#[61,61]⟩) (a 29) ⟨#[124,124]⟩) (qY (wC (rX (a 46) 1 (by unfold jJ;omega)) (a 44) 3 (by omega)) xZ) (qY (wC (rX (a 53) 3 (by unfold jJ;omega)) (a 51) 4 (by omega)) xZ) (a 28)) λv p=>by
 have e:decide (0<=x)=true:=by simpa using h0
 simp[zJ,AZ,outcome,two,aha,ahb,ag6,atY,atZ,e,kW,qh,oL,ajf,aje]⟩
def aeG(x y:Int):List lQ:=[AZ 0 (wrap64 (x * y)),AZ 1 (quot (wrap64 (-x)) (wrap64 (y-5))),AZ 2 (wrap64 (wrap64 (rest x 7+1)-wrap64 (-2))),AZ 4 3]
theorem apy(a:Nat->Int){x y:Int}(hx:jJ x)(hy:jJ y)(h0:0<=x):∃t,t<=4000/\EZ (zh a x y) (aeG x y) t:=by
 obtain⟨t0,b0,h0'⟩:=pq0 a hx hy;obtain⟨t1,b1,h1⟩:=pq1 a hx hy;obtain⟨t2,b2,h2⟩:=pq2 a hx;obtain⟨t3,b3,h3⟩:=pq3 a hx h0;exact⟨_,by omega,qY h0' (qY h1 (qY h2 (qY h3 xZ)))⟩
def aeH(x y:Int)(σ:Int->Int):Int->Int:=sS (sS (sS (sS σ 0 (wrap64 (x * y))) 1 (quot (wrap64 (-x)) (wrap64 (y-5)))) 2 (wrap64 (wrap64 (rest x 7+1)-wrap64 (-2)))) 4 3
theorem apu(x y:Int)(v:Vw)(σ:Int->Int):qh (oL (aeG x y)) v ⟨[],σ,[]⟩=.inr ⟨[],aeH x y σ,[]⟩:=rfl
theorem apw(a:Nat->Int)(x y:Int):(oh (zh a x y) ⟨[],0,0⟩).en=0:=by kernel_rfl
theorem apv(a:Nat->Int)(x y:Int):lM (zh a x y)<=1000000:=by
 have e:lM (zh a x y)=lM (zh (λ_=>0) 0 0):=by kernel_rfl
 rw[e]
 decide+kernel
def pl0:List UInt8:=[82,48,32,61,32]
def pl1:List UInt8:=[32,42,32]
def pl2:List UInt8:=[59,32,82,49,32,61,32,45]
def pl3:List UInt8:=[32,47,32,40]
def pl4:List UInt8:=[32,45,32,53,41,59,32,82,50,32,61,32]
def pl5:List UInt8:=[32,37,32,55,32,43,32,49,32,45,32,45,50,59,32,105,102,32,33,40,49,32,60,32,50,32,38,38,32]
def pl6:List UInt8:=[32,62,61,32,48,41,32,124,124,32,49,32,61,61,32,50,32,123,32,82,51,32,61,32,49,59,32,125,32,101,108,115,101,32,123,32,82,52,32,61,32,51,59,32,125]
theorem apx{s N M:List UInt8}{S:ji}(hS:S.data.toList=s)(hN:(∀c∈N,mZ c.toNat=true)/\0<N.length/\N.length<=18)(hM:(∀c∈M,mZ c.toNat=true)/\0<M.length/\M.length<=18){x y:Int}(hx:Lib.atoi N=some x)(hy:Lib.atoi M=some y)
 (hs:s=pl0++(N++(pl1++(M++(pl2++(N++(pl3++(M++(pl4++(N++(pl5++(N++pl6)))))))))))):∃a,mO S=(zh a x y,0,0):=by
 have hne:∀L:List UInt8,(∀c∈L,mZ c.toNat=true)->∀c:UInt8,mZ c.toNat=false->(L==[c])=false:=λL h c hc=>by
  rw[beq_eq_false_iff_ne];rintro rfl;rw[h c (aW ..)]at hc;cases hc
 obtain⟨a,h⟩:=apA (s:=S) hN hM (hS.trans hs) rfl rfl rfl rfl rfl rfl;have hlen:=congrArg List.length hs;rw[<-hS,J5]at hlen;have hl6:pl6.length=45:=rfl;have hl0:pl0.length=5:=rfl;have hl1:pl1.length=3:=rfl;have hl2:pl2.length=8:=rfl;have hl3:pl3.length=4:=rfl;have hl4:pl4.length=12:=rfl;have hl5:pl5.length=29:=rfl;simp only[aA]at hlen;obtain⟨hN1,hN2,hN3⟩:=hN;obtain⟨hM1,hM2,hM3⟩:=hM;obtain⟨h0,m0,m1,m2,m3,m4,m5,m6,m7,m8,m9,m10,m11,m12,m13,m14,m15,m16,m17,m18,m19,m20,m21,m22,m23,m24,m25,m26,m27,m28,m29,m30,m31,m32,m33,m34,m35,m36,m37,m38,m39,m40,m41,m42,m43,m44,m45,m46,m47,m48,m49,m50,m51,m52,m53,m54,m55⟩:=h;have q:=apz (s:=S) (D:=⟨N.toArray⟩) (E:=⟨M.toArray⟩) (x:=x) (y:=y) (a:=a) (by omega) (by show(Lib.atoi N).getD 0=x;rw[hx];rfl) (by show(Lib.atoi M).getD 0=y;rw[hy];rfl) (hne N hN1 45 (by decide)) (hne N hN1 33 (by decide)) (hne M hM1 45 (by decide)) (hne M hM1 33 (by decide)) m0 m1 m2 m3 m4 m5 m6 m7 m8 m9 m10 m11 m12 m13 m14 m15 m16 m17 m18 m19 m20 m21 m22 m23 m24 m25 m26 m27 m28 m29 m30 m31 m32 m33 m34 m35 m36 m37 m38 m39 m40 m41 m42 m43 m44 m45 m46 m47 m48 m49 m50 m51 m52 m53 m54 m55;have hp:oC S=(zh a x y,0,0):=by
  unfold oC;rw[jg (by omega)];unfold xE;rw[h0,q]
  rfl
 have l0:(qy (zh a x y) ⟨[],0,0⟩).en=0:=by kernel_rfl
 have l1:¬(qy (zh a x y) ⟨[],0,0⟩).en≠0:=λh=>h l0;have l2:¬(1000000:Int)<sumOf (zh a x y):=by
  have e:sumOf (zh a x y)=sumOf (zh (λ_=>0) 0 0):=by kernel_rfl
  rw[e]
  decide+kernel
 refine⟨a,?_⟩;unfold mO;rw[hp];exact(jg (λh=>h rfl)).trans ((jg l1).trans (jg l2))
theorem aeI{S:ji}{a:Nat->Int}{x y:Int}(hc:mO S=(zh a x y,0,0))(hx:jJ x)(hy:jJ y)(h0:0<=x)(b:Bool):(o8 S b qM 0 0 0 0 0 0 0 0).status=0/\(o8 S b qM 0 0 0 0 0 0 0 0).jO=[]/\
 ∀i:Nat,i<8->(o8 S b qM 0 0 0 0 0 0 0 0).jF.getD i 0=aeH x y (A8 [0,0,0,0,0,0,0,0]) i:=by
 obtain⟨t,ht,h⟩:=apy a hx hy h0;have z0:jJ 0:=by unfold jJ;omega
 have q:=agF hc h ht (apw a x y) (apv a x y) b qM 0 0 0 0 0 0 0 0 YO ag3 (by simp[z0]);rw[apu]at q;obtain⟨q1,q2,q3⟩:=q;exact⟨q1,q3,λi hi=>q2 i hi⟩
end
end Go.Proofs.YthllhabjfchgiaaGreatDoor
