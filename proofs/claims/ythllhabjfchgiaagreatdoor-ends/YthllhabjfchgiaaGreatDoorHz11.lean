import Derived.Test.YthllhabjfchgiaaGreatDoorHz10
set_option maxRecDepth 100000
set_option maxHeartbeats 8000000
namespace Go.Proofs.YthllhabjfchgiaaGreatDoor
open _root_.Go.Proofs.Tryz
namespace Hx
open Go.RowKit
structure BJ(v:Vw)(aY:List (Int×Int)):Prop where
 each:∀a∈aY,(∃r∈v.ah,r.id=a.1)/\((∃p∈v.aG,p.seq=a.2)\/(∃p∈v.aJ,p.seq=a.2))
 len:aY.length<=256
def RY(v:Vw)(bG:List Int)(o:Out):Prop:=(o.status=0/\BJ v o.aY)\/((o.status=1\/o.status=2)/\o.bG=bG/\o.aY=[])
theorem ZJ(v:Vw):BJ v []:=⟨fun _ h=>(List.not_mem_nil h).elim,by simp⟩
theorem aaS(s:St)(b:Bool)(m:Mc):(choose s b m).aY=m.aY:=by
 unfold choose;split<;>rfl
theorem aju(v:Vw)(s:St)(m:Mc):(work v s m).aY=m.aY:=by
 unfold work;repeat' split
 all_goals first|rfl|exact aaS _ _ _
theorem QM(s:St)(k:Int)(m:Mc):(turn s k m).1.aY=m.aY:=by
 unfold turn;split<;>rfl
theorem afZ{v:Vw}{i j:Int}{m m':Mc}(h:push v i j m=some m')(ha:BJ v m.aY):BJ v m'.aY:=by
 unfold push at h;split at h
 .rename_i r p hr hp;split at h
  .cases h
  .rename_i hl;cases h;refine⟨fun a h=>?_,?_⟩
   .rcases List.mem_append.1 h with h|h
    .exact ha.each a h
    .rw[List.mem_singleton]at h;subst h;refine⟨⟨r,Vw.VQ hr,rfl⟩,?_⟩;rcases Vw.VP hp with h|h
     .exact Or.inl ⟨p,h,rfl⟩
     .exact Or.inr ⟨p,h,rfl⟩
   .have:=ha.len;simp only[List.length_append,List.length_singleton];omega
 .cases h;exact ha
theorem ain{v:Vw}{S:List St}{bG:List Int}{k:Nat}{s:St}{m:Mc}(ha:BJ v m.aY):
 (∀o,step v S bG k s m=.inl o->RY v bG o)/\(∀k' m',step v S bG k s m=.inr (k',m')->BJ v m'.aY):=by
 unfold step;by_cases h1:s.op=1
 .simp only[if_pos h1];exact⟨fun o h=>by cases h;exact Or.inl ⟨rfl,ha⟩,fun k' m' h=>by cases h⟩
 by_cases h2:s.op=2
 .simp only[if_neg h1,if_pos h2];exact⟨fun o h=>(by cases h),fun k' m' h=>by cases h;exact ha⟩
 by_cases h3:s.op=3
 .simp only[if_neg h1,if_neg h2,if_pos h3];exact⟨fun o h=>(by cases h),fun k' m' h=>by cases h;exact ha⟩
 by_cases h4:s.op=4
 .simp only[if_neg h1,if_neg h2,if_neg h3,if_pos h4];exact⟨fun o h=>(by cases h),fun k' m' h=>by cases h;rw[QM];exact ha⟩
 by_cases h5:s.op=5
 .simp only[if_neg h1,if_neg h2,if_neg h3,if_neg h4,if_pos h5];split
  .split
   .exact⟨fun o h=>(by cases h),fun k' m' h=>by cases h;rw[QM];exact ha⟩
   .exact⟨fun o h=>by cases h;exact Or.inr ⟨Or.inr rfl,rfl,rfl⟩,fun k' m' h=>by cases h⟩
  .exact⟨fun o h=>(by cases h),fun k' m' h=>by cases h;exact ha⟩
 by_cases h0:s.op=0
 .simp only[if_neg h1,if_neg h2,if_neg h3,if_neg h4,if_neg h5,if_pos h0];split
  .exact⟨fun o h=>(by cases h),fun k' m' h=>by cases h;rw[QM];exact ha⟩
  .exact⟨fun o h=>by cases h;exact Or.inr ⟨Or.inr rfl,rfl,rfl⟩,fun k' m' h=>by cases h⟩
 by_cases J9:s.op=36
 .simp only[if_neg h1,if_neg h2,if_neg h3,if_neg h4,if_neg h5,if_neg h0,if_pos J9];cases hp:push v (m.get s.a) (m.get s.b) m with
  |none=>exact⟨fun o h=>by cases h;exact Or.inr ⟨Or.inl rfl,rfl,rfl⟩,fun k' m' h=>by cases h⟩
  |some m1=>exact⟨fun o h=>(by cases h),fun k' m' h=>by cases h;exact afZ hp ha⟩
 .simp only[if_neg h1,if_neg h2,if_neg h3,if_neg h4,if_neg h5,if_neg h0,if_neg J9];exact⟨fun o h=>(by cases h),fun k' m' h=>by cases h;rw[aju];exact ha⟩
theorem XA(v:Vw)(S:List St)(bG:List Int):∀(f:Nat)(k:Int)(m:Mc),BJ v m.aY->RY v bG (runs v S bG f k m)
 |0,_,_,_=>Or.inr ⟨Or.inr rfl,rfl,rfl⟩
 |f+1,k,m,ha=>by
  simp only[runs];cases hk:S[k.toNat]?with
  |none=>exact Or.inr ⟨Or.inr rfl,rfl,rfl⟩
  |some s=>
   obtain⟨g1,g2⟩:=ain (v:=v) (S:=S) (bG:=bG) (k:=k.toNat) (s:=s) ha;simp only;cases hs:step v S bG k.toNat s m with
   |inl o=>exact g1 o hs
   |inr p=>
    obtain⟨k',m'⟩:=p;exact XA v S bG f k' m' (g2 k' m' hs)
end Hx
section
open Go.RowKit
open Hx (St Bk Ls aZ Inv)
attribute [local go_sem ↓] Go.wp_at_zero Go.wp_at_succ
attribute [local go_sem] bT
section
variable {B:Nat}{w:World}{L:Nat}{s:ByteArray}{l:Ls}{vs vb vl:Value}
def pq(B:Nat)(w:World)(L:Nat)(s:ByteArray)(vs vb vl:Value)(l':Ls)(e:Ending)(w':World):Prop:=
 e=.returned (.tuple #[])/\∃vs' bV dI,bn B w' L s l' vs' bV dI/\bF L w vs vb vl w' vs' bV dI
def uX(st:St):Value:=.agg #[.int .u8 st.op,Im st.a,Im st.b,Im st.c,Im st.d,Im st.depth,Im st.to]
section
theorem ZF(h:bn B w L s l vs vb vl)(hi:Inv l)(hl:l.ay.length<=100000)(st:St)(ho:st.op=2):Calls prog 113 #[Pt L 0,uX st] w (pq B w L s vs vb vl (dH l st)):=by
 obtain⟨b1,b2⟩:=hi.aI;refine(Wy h b1 (by omega) (by omega) st.op st.a st.b st.c st.d st.depth st.to).mono ?_;rintro e w' ⟨h1,vs',bV,h2,h3⟩;refine⟨h1,vs',bV,vl,?_,h3⟩;rw[show dH l st=sD l st by simp[dH,ho]];exact h2
theorem ZE(h:bn B w L s l vs vb vl)(hi:Inv l)(hl:l.ay.length<=100000)(st:St)(ho:st.op=4):Calls prog 114 #[Pt L 0,uX st] w (pq B w L s vs vb vl (dH l st)):=by
 obtain⟨b1,b2⟩:=hi.aI;have h8:=hi.eight;by_cases hx:l.bH.length=8
 .refine(afq h hx st.op st.a st.b st.c st.d st.depth st.to).mono ?_;rintro e w' ⟨h1,h2,h3⟩;refine⟨h1,vs,vb,vl,?_,h3⟩;rw[show dH l st={l with bad:=true} by simp[dH,ho,hx]];exact h2
 .refine(afr h b1 (by omega) (by omega) (by omega) st.op st.a st.b st.c st.d st.depth st.to).mono ?_;rintro e w' ⟨h1,vs',bV,dI,h2,h3⟩;refine⟨h1,vs',bV,dI,?_,h3⟩;rw[show dH l st=EO l st by simp[dH,ho,hx]];exact h2
theorem ZB(h:bn B w L s l vs vb vl)(hi:Inv l)(hl:l.ay.length<=100000)(st:St)(ho:st.op=3):Calls prog 115 #[Pt L 0,uX st] w (pq B w L s vs vb vl (dH l st)):=by
 obtain⟨b1,b2⟩:=hi.aI;have b0:0<l.aI.length:=List.length_pos_iff.2 b1;by_cases hx:l.aI.length=1
 .refine(aa4 h hx st.op st.a st.b st.c st.d st.depth st.to).mono ?_;rintro e w' ⟨h1,h2,h3⟩;refine⟨h1,vs,vb,vl,?_,h3⟩;rw[show dH l st={l with bad:=true} by simp[dH,ho,hx]];exact h2
 have hb2:2<=l.aI.length:=by omega
 have CV:l.aI.length<=900000:=by omega
 have Oy:l.ay.length<=900000:=by omega
 have Uu:l.bH.length<=900000:=by have:=hi.eight;omega
 obtain⟨init,bo,b,e⟩:=hi.MB hx;have hc:=hi.chain;rw[e,Hx.uT]at hc;obtain⟨o,so,c1,c2,c3,c4,c5⟩:=hc;have ht:l.dM=b:=Hx.MJ e;have hto:l.dM.kQ=o:=by rw[ht,c1]
 by_cases hy:0<l.dM.other
 .refine(aa5 h hb2 CV hy st.op st.a st.b st.c st.d st.depth st.to).mono ?_;rintro e w' ⟨h1,h2,h3⟩;refine⟨h1,vs,vb,vl,?_,h3⟩;rw[show dH l st={l with bad:=true} by simp[dH,ho,hy]];exact h2
 by_cases hz:so.op=2
 .refine(aa3 h hb2 CV Oy hy o so c3 hto hz st.op st.a st.b st.c st.d st.depth st.to).mono ?_;rintro e w' ⟨h1,vs',bV,dI,h2,h3⟩;refine⟨h1,vs',bV,dI,?_,h3⟩;rw[show dH l st=AY l st o so by simp[dH,ho,hx,hy,hto,c3,hz]];exact h2
 .refine(aa6 h hb2 CV hy o so c3 hto hz st.op st.a st.b st.c st.d st.depth st.to).mono ?_;rintro e w' ⟨h1,h2,h3⟩;refine⟨h1,vs,vb,vl,?_,h3⟩;rw[show dH l st={l with bad:=true} by simp[dH,ho,hx,hy,hto,c3,hz]];exact h2
theorem ZC(h:bn B w L s l vs vb vl)(hi:Inv l)(hl:l.ay.length<=100000)(st:St)(ho:st.op=0):Calls prog 116 #[Pt L 0,uX st] w (pq B w L s vs vb vl (dH l st)):=by
 obtain⟨b1,b2⟩:=hi.aI;have b0:0<l.aI.length:=List.length_pos_iff.2 b1;have h8:=hi.eight;by_cases hx:l.aI.length=1
 .refine(abg h hx (by omega) st.op st.a st.b st.c st.d st.depth st.to).mono ?_;rintro e w' ⟨h1,vs',bV,dI,h2,h3⟩;refine⟨h1,vs',bV,dI,?_,h3⟩;rw[show dH l st=xk l by simp[dH,ho,hx]];exact h2
 have hb2:2<=l.aI.length:=by omega
 have CV:l.aI.length<=900000:=by omega
 have Oy:l.ay.length<=900000:=by omega
 have Uu:l.bH.length<=900000:=by have:=hi.eight;omega
 obtain⟨init,bo,b,e⟩:=hi.MB hx;have hc:=hi.chain;rw[e,Hx.uT]at hc;obtain⟨o,so,c1,c2,c3,c4,c5⟩:=hc;have ht:l.dM=b:=Hx.MJ e;have hto:l.dM.kQ=o:=by rw[ht,c1]
 by_cases hz:so.op=4
 .have hlo:=hi.bH;rcases c4 with⟨a1,a2,a3,a4,_⟩|⟨a1,_⟩|⟨a1,_⟩
  .have acr:l.bH=((Hx.dZ l.ay o).reverse.map Int.ofNat)++[(o:Int)]:=by rw[hlo,a4];simp
   refine(abk h hb2 CV o so c3 hto hz _ _ acr Uu Oy st.op st.a st.b st.c st.d st.depth st.to).mono ?_;rintro e w' ⟨h1,vs',bV,dI,h2,h3⟩;refine⟨h1,vs',bV,dI,?_,h3⟩;rw[show dH l st=xq l st o so by simp[dH,ho,hx,hto,c3,hz]];exact h2
  .omega
  .omega
 .rcases c4 with⟨a1,_⟩|⟨a1,a2,_⟩|⟨a1,x,t,a2,a3,a4,a5,_⟩
  .exact absurd a1 hz
  .have hy:¬0<l.dM.other:=by rw[ht,a2];omega
   refine(abh h hb2 CV o so c3 hto hz hy st.op st.a st.b st.c st.d st.depth st.to).mono ?_;rintro e w' ⟨h1,vs',bV,dI,h2,h3⟩;refine⟨h1,vs',bV,dI,?_,h3⟩;rw[show dH l st=oP l o so l.aI.dropLast l.dM by simp[dH,ho,hx,hto,c3,hz,hy]];exact h2
  .have hox:l.dM.other=x:=by rw[ht,a2]
   have hy:0<l.dM.other:=by rw[hox];omega
   refine(abj h hb2 CV o so c3 hto hz x t a5 (by omega) hox st.op st.a st.b st.c st.d st.depth st.to).mono ?_;rintro e w' ⟨h1,vs',bV,dI,h2,h3⟩;refine⟨h1,vs',bV,dI,?_,h3⟩;have hx0:0<x:=by omega
   rw[show dH l st=oP l x t l.aI.dropLast l.dM by simp[dH,ho,hx,hto,c3,hz,hox,hx0,a5]];exact h2
theorem ZG(h:bn B w L s l vs vb vl)(hi:Inv l)(hl:l.ay.length<=100000)(st:St)(ho:st.op=5):Calls prog 117 #[Pt L 0,uX st] w (pq B w L s vs vb vl (dH l st)):=by
 obtain⟨b1,b2⟩:=hi.aI;have h8:=hi.eight;rcases List.eq_nil_or_concat l.bH with hx|⟨init,x,hx⟩
 .refine(ah0 h hx st.op st.a st.b st.c st.d st.depth st.to).mono ?_;rintro e w' ⟨h1,h2,h3⟩;refine⟨h1,vs,vb,vl,?_,h3⟩;rw[show dH l st={l with bad:=true} by simp[dH,ho,hx,IQ]];exact h2
 .rw[List.concat_eq_append]at hx;refine(ah1 h b1 (by omega) (by omega) (by omega) init x hx st.op st.a st.b st.c st.d st.depth st.to).mono ?_;rintro e w' ⟨h1,vs',h2,h3⟩;refine⟨h1,vs',vb,vl,?_,h3⟩;rw[show dH l st=fE l ⟨st.op,st.a,st.b,st.c,st.d,st.depth,x⟩ by simp[dH,ho,hx,IQ]];exact h2
theorem Zz(h:bn B w L s l vs vb vl)(hi:Inv l)(hl:l.ay.length<=100000)(st:St)(h0:¬st.op=0)(h2:¬st.op=2)(h3:¬st.op=3)(h4:¬st.op=4)(h5:¬st.op=5):Calls prog 118 #[Pt L 0,uX st] w (pq B w L s vs vb vl (dH l st)):=by
 obtain⟨b1,b2⟩:=hi.aI;refine(Ei h b1 (by omega) (by omega) st.op st.a st.b st.c st.d st.depth st.to).mono ?_;rintro e w' ⟨g1,vs',g2,g3⟩;refine⟨g1,vs',vb,vl,?_,g3⟩;rw[show dH l st=fE l st by simp[dH,h0,h2,h3,h4,h5]];exact g2
end
end
section
variable {B:Nat}{w:World}{L:Nat}{s:ByteArray}{l:Ls}{vs vb vl:Value}
def qo(B:Nat)(w:World)(L:Nat)(s:ByteArray)(vs vb vl:Value)(Q:Ls->Prop)(e:Ending)(w':World):Prop:=
 e=.returned (.tuple #[])/\∃l' vs' bV dI,bn B w' L s l' vs' bV dI/\bF L w vs vb vl w' vs' bV dI/\Q l'
theorem OZ(HR:Hid (Calls prog 112 #[Pt L 0] w fun e w'=>∃l' x0 x1 x2 x3 x4,bn B w' L s l' vs vb vl/\bF L w vs vb vl w' vs vb vl/\e=.returned (.tuple #[.agg #[.int .u8 x0,Im x1,Im x2,Im x3,Im x4,Im 0,Im 0],.bool false]))):
 Calls prog 72 #[Pt L 0] w (qo B w L s vs vb vl fun l'=>l'.bad=true):=by
 go_enter func72,ntmps72;go_wp2_with fail;refine HR.out.mono ?_;rintro e w1 ⟨l',x0,x1,x2,x3,x4,h1,h2,rfl⟩;have c7:=h1.c7;have f7:=h1.fr 7;have hL:=h1.lt;have n1:¬L=w1.heap.size:=by omega
 have HP:Hid (∀o,bn B ((w1.setCell (Ad L 7) (.bool true)).alloc o) L s {l' with bad:=true} vs vb vl/\bF L w vs vb vl ((w1.setCell (Ad L 7) (.bool true)).alloc o) vs vb vl):=fun o=>
  ⟨h1.Dx.alloc o,h2.trans ((bF.own L w1 vs vb vl 7 _).trans (bF.grow L _ _ _ _ (World.grownBy_alloc _ o none)))⟩
 clear h1 h2 HR;go_wp2_with fail;go_end0;exact⟨rfl,_,_,_,_,(HP.out _).1,(HP.out _).2,rfl⟩
theorem adk(l1:Ls)(hi:Inv l1)(hl:l1.ay.length<=100000)(st:St)(hd:st.depth=0)(ht:st.to=0)
 (HR:Hid (Calls prog 112 #[Pt L 0] w fun e w'=>bn B w' L s l1 vs vb vl/\bF L w vs vb vl w' vs vb vl/\e=.returned (.tuple #[uX st,.bool true]))):
 Calls prog 72 #[Pt L 0] w (qo B w L s vs vb vl fun l'=>l'=dH l1 st):=by
 obtain⟨q,a,b,c,d,dp,t⟩:=st;simp only at hd ht;subst hd;subst ht;have HF:Hid (∀w1 o e w',bn B w1 L s l1 vs vb vl->bF L w vs vb vl w1 vs vb vl->pq B (w1.alloc o) L s vs vb vl (dH l1 ⟨q,a,b,c,d,0,0⟩) e w'->qo B w L s vs vb vl (fun l'=>l'=dH l1 ⟨q,a,b,c,d,0,0⟩) e w'):=by
  rintro w1 o e w' h1 h2 ⟨h3,vs',bV,dI,h4,h5⟩;exact⟨h3,_,_,_,_,h4,h2.trans ((bF.grow L w1 _ _ _ (World.grownBy_alloc _ o none)).trans h5),rfl⟩
 by_cases o2:q=2
 .subst o2;go_enter func72,ntmps72;go_wp2_with fail;refine HR.out.mono ?_;rintro e w1 ⟨h1,h2,rfl⟩;have HC:Hid (∀o,Calls prog 113 #[Pt L 0,.agg #[.int .u8 2,Im a,Im b,Im c,Im d,Im 0,Im 0]] (w1.alloc o) (pq B (w1.alloc o) L s vs vb vl (dH l1 ⟨2,a,b,c,d,0,0⟩))):=fun o=>ZF (h1.alloc o) hi hl ⟨2,a,b,c,d,0,0⟩ rfl;have HG:Hid (∀o e w',pq B (w1.alloc o) L s vs vb vl (dH l1 ⟨2,a,b,c,d,0,0⟩) e w'->qo B w L s vs vb vl (fun l'=>l'=dH l1 ⟨2,a,b,c,d,0,0⟩) e w'):=fun o e w' ha=>HF.out w1 o e w' h1 h2 ha;clear h1 h2 HR hi HF;simp only[uX];go_wp2_with fail;refine(HC.out _).mono ?_;intro e w2 ha;have hg:=HG.out _ _ _ ha;obtain⟨rfl,_⟩:=ha;have HH:Hid (qo B w L s vs vb vl (fun l'=>l'=dH l1 ⟨2,a,b,c,d,0,0⟩) (.returned (.tuple #[])) w2):=hg;clear hg;go_wp2_with fail;go_end0;exact HH.out
 by_cases o4:q=4
 .subst o4;go_enter func72,ntmps72;go_wp2_with fail;refine HR.out.mono ?_;rintro e w1 ⟨h1,h2,rfl⟩;have HC:Hid (∀o,Calls prog 114 #[Pt L 0,.agg #[.int .u8 4,Im a,Im b,Im c,Im d,Im 0,Im 0]] (w1.alloc o) (pq B (w1.alloc o) L s vs vb vl (dH l1 ⟨4,a,b,c,d,0,0⟩))):=fun o=>ZE (h1.alloc o) hi hl ⟨4,a,b,c,d,0,0⟩ rfl;have HG:Hid (∀o e w',pq B (w1.alloc o) L s vs vb vl (dH l1 ⟨4,a,b,c,d,0,0⟩) e w'->qo B w L s vs vb vl (fun l'=>l'=dH l1 ⟨4,a,b,c,d,0,0⟩) e w'):=fun o e w' ha=>HF.out w1 o e w' h1 h2 ha;clear h1 h2 HR hi HF;simp only[uX];go_wp2_with fail;refine(HC.out _).mono ?_;intro e w2 ha;have hg:=HG.out _ _ _ ha;obtain⟨rfl,_⟩:=ha;have HH:Hid (qo B w L s vs vb vl (fun l'=>l'=dH l1 ⟨4,a,b,c,d,0,0⟩) (.returned (.tuple #[])) w2):=hg;clear hg;go_wp2_with fail;go_end0;exact HH.out
 by_cases o3:q=3
 .subst o3;go_enter func72,ntmps72;go_wp2_with fail;refine HR.out.mono ?_;rintro e w1 ⟨h1,h2,rfl⟩;have HC:Hid (∀o,Calls prog 115 #[Pt L 0,.agg #[.int .u8 3,Im a,Im b,Im c,Im d,Im 0,Im 0]] (w1.alloc o) (pq B (w1.alloc o) L s vs vb vl (dH l1 ⟨3,a,b,c,d,0,0⟩))):=fun o=>ZB (h1.alloc o) hi hl ⟨3,a,b,c,d,0,0⟩ rfl;have HG:Hid (∀o e w',pq B (w1.alloc o) L s vs vb vl (dH l1 ⟨3,a,b,c,d,0,0⟩) e w'->qo B w L s vs vb vl (fun l'=>l'=dH l1 ⟨3,a,b,c,d,0,0⟩) e w'):=fun o e w' ha=>HF.out w1 o e w' h1 h2 ha;clear h1 h2 HR hi HF;simp only[uX];go_wp2_with fail;refine(HC.out _).mono ?_;intro e w2 ha;have hg:=HG.out _ _ _ ha;obtain⟨rfl,_⟩:=ha;have HH:Hid (qo B w L s vs vb vl (fun l'=>l'=dH l1 ⟨3,a,b,c,d,0,0⟩) (.returned (.tuple #[])) w2):=hg;clear hg;go_wp2_with fail;go_end0;exact HH.out
 by_cases o0:q=0
 .subst o0;go_enter func72,ntmps72;go_wp2_with fail;refine HR.out.mono ?_;rintro e w1 ⟨h1,h2,rfl⟩;have HC:Hid (∀o,Calls prog 116 #[Pt L 0,.agg #[.int .u8 0,Im a,Im b,Im c,Im d,Im 0,Im 0]] (w1.alloc o) (pq B (w1.alloc o) L s vs vb vl (dH l1 ⟨0,a,b,c,d,0,0⟩))):=fun o=>ZC (h1.alloc o) hi hl ⟨0,a,b,c,d,0,0⟩ rfl;have HG:Hid (∀o e w',pq B (w1.alloc o) L s vs vb vl (dH l1 ⟨0,a,b,c,d,0,0⟩) e w'->qo B w L s vs vb vl (fun l'=>l'=dH l1 ⟨0,a,b,c,d,0,0⟩) e w'):=fun o e w' ha=>HF.out w1 o e w' h1 h2 ha;clear h1 h2 HR hi HF;simp only[uX];go_wp2_with fail;refine(HC.out _).mono ?_;intro e w2 ha;have hg:=HG.out _ _ _ ha;obtain⟨rfl,_⟩:=ha;have HH:Hid (qo B w L s vs vb vl (fun l'=>l'=dH l1 ⟨0,a,b,c,d,0,0⟩) (.returned (.tuple #[])) w2):=hg;clear hg;go_wp2_with fail;go_end0;exact HH.out
 by_cases o5:q=5
 .subst o5;go_enter func72,ntmps72;go_wp2_with fail;refine HR.out.mono ?_;rintro e w1 ⟨h1,h2,rfl⟩;have HC:Hid (∀o,Calls prog 117 #[Pt L 0,.agg #[.int .u8 5,Im a,Im b,Im c,Im d,Im 0,Im 0]] (w1.alloc o) (pq B (w1.alloc o) L s vs vb vl (dH l1 ⟨5,a,b,c,d,0,0⟩))):=fun o=>ZG (h1.alloc o) hi hl ⟨5,a,b,c,d,0,0⟩ rfl;have HG:Hid (∀o e w',pq B (w1.alloc o) L s vs vb vl (dH l1 ⟨5,a,b,c,d,0,0⟩) e w'->qo B w L s vs vb vl (fun l'=>l'=dH l1 ⟨5,a,b,c,d,0,0⟩) e w'):=fun o e w' ha=>HF.out w1 o e w' h1 h2 ha;clear h1 h2 HR hi HF;simp only[uX];go_wp2_with fail;refine(HC.out _).mono ?_;intro e w2 ha;have hg:=HG.out _ _ _ ha;obtain⟨rfl,_⟩:=ha;have HH:Hid (qo B w L s vs vb vl (fun l'=>l'=dH l1 ⟨5,a,b,c,d,0,0⟩) (.returned (.tuple #[])) w2):=hg;clear hg;go_wp2_with fail;go_end0;exact HH.out
 have e0:(q==0)=false:=by simpa using o0
 have e2:(q==2)=false:=by simpa using o2
 have e3:(q==3)=false:=by simpa using o3
 have e4:(q==4)=false:=by simpa using o4
 have e5:(q==5)=false:=by simpa using o5
 go_enter func72,ntmps72;go_wp2_with fail;refine HR.out.mono ?_;rintro e w1 ⟨h1,h2,rfl⟩;have HC:Hid (∀o,Calls prog 118 #[Pt L 0,.agg #[.int .u8 q,Im a,Im b,Im c,Im d,Im 0,Im 0]] (w1.alloc o) (pq B (w1.alloc o) L s vs vb vl (dH l1 ⟨q,a,b,c,d,0,0⟩))):=fun o=>Zz (h1.alloc o) hi hl ⟨q,a,b,c,d,0,0⟩ o0 o2 o3 o4 o5;have HG:Hid (∀o e w',pq B (w1.alloc o) L s vs vb vl (dH l1 ⟨q,a,b,c,d,0,0⟩) e w'->qo B w L s vs vb vl (fun l'=>l'=dH l1 ⟨q,a,b,c,d,0,0⟩) e w'):=fun o e w' ha=>HF.out w1 o e w' h1 h2 ha;clear h1 h2 HR hi HF;simp only[uX];go_wp2_with fail;refine(HC.out _).mono ?_;intro e w2 ha;have hg:=HG.out _ _ _ ha;obtain⟨rfl,_⟩:=ha;have HH:Hid (qo B w L s vs vb vl (fun l'=>l'=dH l1 ⟨q,a,b,c,d,0,0⟩) (.returned (.tuple #[])) w2):=hg;clear hg;go_wp2_with fail;go_end0;exact HH.out
def zi(bs:List UInt8)(l l':Ls):Prop:=match sG bs l with
 |none=>l'.bad=true
 |some (st,l1)=>l'=dH l1 st
theorem adl(h:bn B w L s l vs vb vl)(hi:Inv l)(p:Nat)(hp:l.pos=p)(hps:p<=s.size)(hs:s.size<=100000)(hl:l.ay.length<=p):
 Calls prog 72 #[Pt L 0] w (qo B w L s vs vb vl fun l'=>zi s.data.toList l l'):=by
 have hlen:s.data.toList.length=s.size:=by simp
 by_cases he:p=s.size
 .have hn:sG s.data.toList l=none:=by
   unfold sG;rw[List.getElem?_eq_none (by omega)]
  simp only[zi,hn];refine OZ ((agJ h (by omega)).mono ?_);rintro e w' ⟨rfl,hg⟩;exact⟨l,_,_,_,_,_,h.grow hg,bF.grow L w vs vb vl hg,rfl⟩
 .have hlt:p<s.size:=by omega
  have hb:s.data.toList[l.pos.toNat]? =some s[p]:=by
   have e1:l.pos.toNat=p:=by omega
   rw[e1,List.getElem?_eq_getElem (by omega)]
   rfl
  have hpt:l.pos.toNat+1=p+1:=by omega
  have hR:=agL h p hp hlt hs _ rfl;cases hr:rE s.data.toList (Hx.shape s[p].toNat) (p+1) l.aF with
  |none=>
   have hn:sG s.data.toList l=none:=by
    unfold sG;rw[hb];simp only[hpt,hr];split<;>rfl
   simp only[zi,hn];refine OZ (hR.mono ?_);rintro e w' ⟨l',h1,h2,⟨ns,p',sl',h3,_⟩|⟨_,_,rfl⟩⟩
   .rw[hr]at h3;cases h3
   .exact⟨l',_,_,_,_,_,h1,h2,rfl⟩
  |some r=>
   obtain⟨ns,p',sl'⟩:=r;cases hop:Hx.Bf s[p].toNat with
   |false=>
    have hn:sG s.data.toList l=none:=by
     unfold sG;rw[hb];simp[hop]
    simp only[zi,hn];refine OZ (hR.mono ?_);rintro e w' ⟨l',h1,h2,⟨ns,p',sl',h3,_,rfl⟩|⟨h3,_⟩⟩
    .rw[hop];exact⟨l',_,_,_,_,_,h1,h2,rfl⟩
    .rw[hr]at h3;cases h3
   |true=>
    have hn:sG s.data.toList l=some (⟨s[p].toNat,ns.getD 0 0,ns.getD 1 0,ns.getD 2 0,ns.getD 3 0,0,0⟩,{l with pos:=p',aF:=sl'}):=by
     unfold sG;rw[hb];simp[hop,hpt,hr]
    have hok:=Hx.Qh hn (by omega) hi.aF;simp only[zi,hn];refine adk {l with pos:=p',aF:=sl'} (hi.read hok.2.2.2.1 hok.2.2.2.2.1) (by show l.ay.length<=100000;omega) _ rfl rfl (hR.mono ?_);rintro e w' ⟨l',h1,h2,⟨ns',p'',sl'',h3,h4,rfl⟩|⟨h3,_⟩⟩
    .rw[hr]at h3;cases h3;subst h4;rw[hop];exact⟨h1,h2,rfl⟩
    .rw[hr]at h3;cases h3
end
end
section
open Go.RowKit
open Hx (St Bk Ls aZ Inv DX)
attribute [local go_sem ↓] Go.wp_at_zero Go.wp_at_succ
attribute [local go_sem] bT
section
variable {B:Nat}{w:World}{L:Nat}{s:ByteArray}{l:Ls}{vs vb vl:Value}
theorem bF.below(h:bn B w L s l vs vb vl){w':World}{vs' bV dI:Value}(hm:bF L w vs vb vl w' vs' bV dI):Below B w w':=by
 refine⟨hm.os,hm.tape,hm.output,hm.size,fun k hk=>?_⟩;have hL:=h.lt;have hB:=h.bL;have aux:∀{v:Value}{e:TypeId}{sz n:Nat}{xs:List Value},w.ownsRow B e sz v n xs->some k≠v.ownBlock:=fun ho e=>by
  have:=(ho.lt k e.symm).1;omega
 exact hm.block k (by omega) (by omega) (aux h.ay) (aux h.aI) (aux h.bH)
def Gm(bs:List UInt8)(g:Nat)(l:Ls):Prop:=
 (l.bad=true/\(eF bs).bad=true)\/(l.bad=false/\l=eF bs/\DX l/\l.pos<=bs.length)\/
 (Inv l/\0<=l.pos/\l.pos<=bs.length/\(l.ay.length:Int)<=l.pos/\(bs.length:Int)-l.pos<g/\su bs g l=eF bs)
theorem aif(bs:List UInt8):Gm bs (bs.length+1) pK:=
 Or.inr (Or.inr ⟨Hx.Vh,by simp[pK],by simp[pK],by simp[pK],by simp only[pK];omega,rfl⟩)
theorem aii{bs:List UInt8}(hbs:bs.length<=100000){g:Nat}{l l':Ls}(hi:Inv l)(h0:0<=l.pos)(h1:l.pos<=bs.length)(h2:(l.ay.length:Int)<=l.pos)(h3:(bs.length:Int)-l.pos<(g+1:Nat))(h4:su bs (g+1) l=eF bs)(ha:zi bs l l'):Gm bs g l':=by
 have hn:¬(l.aI=[]\/l.bad=true):=fun e=>e.elim hi.aI.1 (fun e=>by rw[hi.bad]at e;cases e);unfold zi at ha;cases hr:sG bs l with
 |none=>
  rw[hr]at ha;refine Or.inl ⟨ha,?_⟩;rw[<-h4];simp only[su,if_neg hn,hr]
 |some q=>
  obtain⟨st,l1⟩:=q;rw[hr]at ha;simp only at ha;subst ha;rw[Hx.VG bs g l l1 st hi hr]at h4;obtain⟨g1,g2,g3,g4,g5,g6⟩:=Hx.Qh hr h0 hi.aF;have hi1:Inv l1:=by rw[g6];exact hi.read g4 g5
  have hs1:l1.ay=l.ay:=by rw[g6]
  obtain⟨k1,k2⟩:=Hx.Vd l1 st;cases hbb:(dH l1 st).bad with
  |true=>
   rw[Hx.VD bs g _ hbb]at h4;exact Or.inl ⟨hbb,by rw[<-h4];exact hbb⟩
  |false=>
   rcases Hx.Vj hi1 st g1 (by rw[hs1];omega) hbb with hv|hv
   .exact Or.inr (Or.inr ⟨hv,by rw[k2];omega,by rw[k2];exact g3,by rw[k2];rw[hs1]at k1;omega,by rw[k2];push_cast at h3;omega,h4⟩)
   .rw[Hx.VE bs g _ hv.aI]at h4;exact Or.inr (Or.inl ⟨hbb,h4,hv,by rw[k2];exact g3⟩)
structure xU(w:World)(C:Nat)(l:Ls):Prop where
 code:∃sb cap,nM w.heap.size w C 0 sb 0 cap l.ay
 aF:w.cell? (Ad C 1)=some (Im l.aF)
 need:w.cell? (Ad C 2)=some (Im l.need)
def Jp(s:ByteArray)(w:World)(e:Ending)(w':World):Prop:=
 Below w.heap.size w w'/\((takes s.data.toList=true/\∃C,w.heap.size<=C/\e=.returned (.tuple #[Pt C 0,Im 0])/\xU w' C (eF s.data.toList))\/
  (takes s.data.toList=false/\e=.returned (.tuple #[.pointer none,Im 5])))
theorem aaY(h:bn B w L s l vs vb vl)(hpos:0<l.ay.length)(k:Nat)(T:TypeId):xU ((w.drewN k).alloc (.cells #[vs,Im l.aF,Im l.need] T)) w.heap.size l:=by
 have hb:∀j,((w.drewN k).alloc (.cells #[vs,Im l.aF,Im l.need] T)).cell? (Ad w.heap.size j)=(#[vs,Im l.aF,Im l.need]:Array Value)[j]? :=fun j=>by
  have hh:((w.drewN k).alloc (.cells #[vs,Im l.aF,Im l.need] T)).heap[w.heap.size]? =some (.cells #[vs,Im l.aF,Im l.need] T):=heap_alloc_new (w.drewN k) _;exact aA hh
 have h':=(h.drewN k).alloc (.cells #[vs,Im l.aF,Im l.need] T);have acL:l.ay[0]? =some l.ay[0]:=List.getElem?_eq_getElem hpos;obtain⟨g,cap,e1,e2,_⟩:=h'.xM acL;refine⟨⟨g,cap,?_,e2,?_,?_⟩,hb 1,hb 2⟩
 .show w.heap.size<((w.drewN k).alloc _).heap.size;rw[show∀(x:World) o,(x.alloc o).heap.size=x.heap.size+1 from fun x o=>by simp];exact Nat.lt_succ_self _
 .rw[hb 0,e1];rfl
 .intro i st hst;obtain⟨g',cap',e1',_,_,_,_,_,hat,_⟩:=h'.xM hst;rw[e1]at e1';cases e1';rw[Nat.zero_add];exact hat
theorem ad5(w:World)(s:ByteArray)(hs:100000<s.size):Calls prog 31 #[.string s] w (Jp s w):=by
 have d1:decide ((100000:Int)<(s.size:Int))=true:=by simp;omega
 have HT:Hid (takes s.data.toList=false):=by
  have:¬s.data.toList.length<=100000:=by simp;omega
  show _=_;simp only[takes,decide_eq_false this,Bool.false_and]
 go_enter func31,ntmps31;go_wp2_with fail;go_ret2;exact⟨Below.refl _ w,Or.inr ⟨HT.out,rfl⟩⟩
theorem ad6(w:World)(s:ByteArray)(hs:s.size<=100000):Calls prog 31 #[.string s] w (Jp s w):=by
 have d1:decide ((100000:Int)<(s.size:Int))=false:=by simp;omega
 have hbs:s.data.toList.length<=100000:=by simpa using hs
 have hlen:s.data.toList.length=s.size:=by simp
 go_enter func31,ntmps31;go_wp2_with fail;refine(aeF w s).mono ?_;rintro e w1 ⟨L,rfl,hL,hg1,g,cap,hl1⟩;have HB:Hid (Below w.heap.size w w1):=⟨hg1.os,hg1.tape,hg1.output,hg1.size,fun k hk=>hg1.block k hk (by simp)⟩;have HL:Hid (bn w.heap.size w1 L s pK (Nl) (.slice (some (Ad g 0)) 1 cap) (Nl)):=hl1;clear hg1 hl1;go_wp2_with fail;go_loopg [] (s.data.toList.length+1) (fun gg wr=>∃l vs vb vl,bn w.heap.size wr L s l vs vb vl/\Below w.heap.size w wr/\Gm s.data.toList gg l)
 case atStart=>exact⟨_,_,_,_,HL.out,HB.out,aif _⟩
 case round=>
  obtain⟨l,vs,vb,vl,h1,h2,h3⟩:=hrel;clear HL HB;obtain⟨ab,cb,rfl⟩:=wJ h1.aI;obtain⟨as',cs',rfl⟩:=wJ h1.ay;have c1:=h1.c1;have c2:=h1.c2;have c3:=h1.c3;have c5:=h1.c5;have c6:=h1.c6;have c7:=h1.c7;rcases h3 with⟨hb,hld⟩|⟨hb,hld,hf,hps⟩|⟨hi,p0,p1,p2,p3,p4⟩
  .have HT:Hid (takes s.data.toList=false):=by
    show _=_;simp only[takes,hld,Bool.not_true,Bool.and_false,Bool.false_and]
   have HB:Hid (Below w.heap.size w wr):=h2;rw[hb]at c7;clear h1 h2 hld;generalize l.aI.length=n at *;by_cases hn:n=0
   .subst hn;go_wp2_with fail;go_ret2;exact⟨HB.out,Or.inr ⟨HT.out,rfl⟩⟩
   .have hn':decide ((0:Int)<(n:Int))=true:=by simp;omega
    go_wp2_with fail;go_ret2;exact⟨HB.out,Or.inr ⟨HT.out,rfl⟩⟩
  .have hbl:l.aI.length=0:=by rw[hf.aI];rfl
   rw[hbl]at c3;rw[hb]at c7;have hLr:=h1.lt;have n1:¬L=wr.heap.size:=by omega
   have HB:Hid (Below w.heap.size w wr):=h2;have HC:Hid (∀k T,xU ((wr.drewN k).alloc (.cells #[.slice as' l.ay.length cs',Im l.aF,Im l.need] T)) wr.heap.size (eF s.data.toList)):=fun k T=>by
    rw[<-hld];exact aaY h1 hf.sound.fits.pos k T
   by_cases hp:l.pos<s.size
   .have HT:Hid (takes s.data.toList=false):=by
     show _=_;have:¬(eF s.data.toList).pos=(s.data.toList.length:Int):=by rw[<-hld];omega
     simp only[takes,decide_eq_false this,Bool.and_false]
    have d2:decide (l.pos<(s.size:Int))=true:=decide_eq_true hp;clear h1 h2 hld hf;generalize l.pos=pos at *;go_wp2_with fail;go_ret2;exact⟨HB.out,Or.inr ⟨HT.out,rfl⟩⟩
   .have HT:Hid (takes s.data.toList=true):=by
     show _=_;have e1:(eF s.data.toList).pos=(s.data.toList.length:Int):=by rw[<-hld];omega
     have e2:(eF s.data.toList).bad=false:=by rw[<-hld];exact hb
     simp only[takes,decide_eq_true e1,decide_eq_true hbs,e2,Bool.not_false,Bool.and_self]
    have d2:decide (l.pos<(s.size:Int))=false:=decide_eq_false hp;clear h1 h2 hld hf;generalize l.pos=pos at *;generalize l.aF=sl at *;generalize l.need=need at *;generalize l.ay.length=nst at *;go_wp2_with fail;refine fC 13 (by kernel_rfl) (by kernel_rfl) ?_;simp only[List.take_succ_cons,List.take_zero,List.drop_succ_cons,List.drop_zero];repeat (go_big_quiet_step (fail))
    refine wpQuiet_nil ?_;intro _ hw';obtain⟨k3,hw''⟩:=hw';subst hw'';go_wp2_with fail;go_ret2;refine⟨?_,Or.inl ⟨HT.out,wr.heap.size,by have:=HB.out.size;omega,rfl,HC.out k3 _⟩⟩;have hb3:Below w.heap.size w (wr.drewN k3):=HB.out.trans ⟨rfl,rfl,rfl,Nat.le_refl _,fun _ _=>rfl⟩;exact hb3.alloc HB.out.size _
  .have hbp:0<l.aI.length:=List.length_pos_iff.2 hi.aI.1;have hn':decide ((0:Int)<(l.aI.length:Int))=true:=by simp;omega
   rw[hi.bad]at c7;obtain⟨p,hp⟩:=Int.eq_ofNat_of_zero_le p0;obtain⟨g',rfl⟩:∃g',gk=g'+1:=⟨gk-1,by omega⟩;have HC:Hid (Calls prog 72 #[Pt L 0] wr (qo w.heap.size wr L s (.slice as' l.ay.length cs') (.slice ab l.aI.length cb) vl fun l'=>zi s.data.toList l l')):=adl h1 hi p hp (by omega) hs (by omega);have HN:Hid (∀e w',qo w.heap.size wr L s (.slice as' l.ay.length cs') (.slice ab l.aI.length cb) vl (fun l'=>zi s.data.toList l l') e w'->e=.returned (.tuple #[])/\∃l' vs' bV dI,bn w.heap.size w' L s l' vs' bV dI/\Below w.heap.size w w'/\Gm s.data.toList g' l'):=by
    rintro e w' ⟨q1,l',vs',bV,dI,q2,q3,q4⟩;exact⟨q1,l',vs',bV,dI,q2,h2.trans (bF.below h1 q3),aii hbs hi p0 p1 p2 p3 p4 q4⟩
   clear h1 h2 hi p4;generalize l.aI.length=n at *;go_wp2_with fail;refine HC.out.mono ?_;intro e w2 hq;obtain⟨rfl,hq2⟩:=HN.out _ _ hq;have HQ:Hid (∃l' vs' bV dI,bn w.heap.size w2 L s l' vs' bV dI/\Below w.heap.size w w2/\Gm s.data.toList g' l'):=hq2;clear hq hq2 HC HN;go_wp2_with fail;go_roundg g'
   case measure=>omega
   case rel=>exact HQ.out
theorem Po(w:World)(s:ByteArray):Calls prog 31 #[.string s] w (Jp s w):=by
 by_cases hs:s.size<=100000
 .exact ad6 w s hs
 .exact ad5 w s (by omega)
end
end
section
open Go
section
variable {P:Program}{ops:Array Oper}{md:Region.Mode}{S:World->Prop}{Q:Exit->Act->World->Prop}
def xC(n:Nat)(ds:List Nat):Array Bool:=ds.foldr (fun i m=>m.setIfInBounds i true) (Array.replicate n false)
theorem Pz(n:Nat):∀ds:List Nat,(xC n ds).size=n
 |[]=>by simp[xC]
 |i::ds=>by
  show((xC n ds).setIfInBounds i true).size=n;rw[Array.size_setIfInBounds];exact Pz n ds
theorem VN(n:Nat):∀(ds:List Nat)(j:Nat),j∉ds->(xC n ds).getD j false=false
 |[],j,_=>getD_replicate_false n j
 |i::ds,j,h=>by
  show((xC n ds).setIfInBounds i true).getD j false=false;rw[getD_set_ne false (fun e=>h (by rw[e];exact List.mem_cons_self))];exact VN n ds j (fun e=>h (List.mem_cons_of_mem _ e))
theorem Py(n:Nat):∀(ds:List Nat)(j:Nat),j∈ds->j<n->(xC n ds).getD j false=true
 |[],j,h,_=>absurd h List.not_mem_nil
 |i::ds,j,h,hj=>by
  show((xC n ds).setIfInBounds i true).getD j false=true;by_cases e:i=j
  .subst e;have:=Pz n ds;simp[this,hj]
  .rw[getD_set_ne false e];rcases List.mem_cons.1 h with e2|e2
   .exact absurd e2.symm e
   .exact Py n ds j e2 hj
def N9(md:Region.Mode)(ops:Array Oper)(ds:List Nat)(i:Nat):Bool:=
 match ops[i]?with
 |none=>false
 |some oi=>(List.range ops.size).all fun j=>j==i||ds.contains j||match ops[j]?with
   |some oj=>oj.after.any (fun e=>Region.binds md e&&e.on==i)||oi.apart ops oj
   |none=>true
theorem aby{ds:List Nat}{i:Nat}{oi:Oper}(hi:ops[i]? =some oi)(h:N9 md ops ds i=true)(j:Nat)(oj:Oper)(hj:ops[j]? =some oj)(hne:j≠i)(hun:j∉ds)(hno:∀e∈oj.after,Region.binds md e=true->e.on≠i):oi.apart ops oj=true:=by
 simp only[N9,hi,List.all_eq_true,List.mem_range]at h;have h1:=h j (Array.getElem?_eq_some_iff.1 hj).1;have h2:ds.contains j=false:=by simpa using hun
 simp only[hj,Bool.or_eq_true,beq_iff_eq,hne,false_or,h2,Bool.false_eq_true]at h1;rcases h1 with h1|h1
 .obtain⟨k,hk,hx⟩:=Array.any_eq_true.1 h1;simp only[Bool.and_eq_true,beq_iff_eq]at hx;exact absurd hx.2 (hno _ (Array.getElem_mem hk) hx.1)
 .exact h1
def Ym(md:Region.Mode)(ops:Array Oper)(ds:List Nat)(i:Nat):Bool:=
 !ds.contains i&&N9 md ops ds i&&((ops[i]?).map (·.after.all fun e=>!Region.binds md e||(ds.contains e.on&&decide (e.on<ops.size)))).getD false
def MH(md:Region.Mode)(ops:Array Oper):List Nat->List Nat->Bool
 |[],_=>true
 |i::is,ds=>Ym md ops ds i&&MH md ops is (i::ds)
def yx(P:Program)(ops:Array Oper)(S:World->Prop):List Oper->(Act->Prop)->Act->Prop
 |[],K,a=>K a
 |o::os,K,a=>∃v,YieldsIf P ops S o v a/\yx P ops S os K (a.put o.dst v)
theorem yx.nil{K:Act->Prop}{a:Act}(h:K a):yx P ops S [] K a:=h
theorem yx.cons{o:Oper}{os:List Oper}{K:Act->Prop}{a:Act}{v:Value}(h:Region.wanted o (yielded ops a.tmps)=true)(hy:∀w,S w->(execOp a.eval o).run P w=.ok (.value v) w)(hr:yx P ops S os K (a.put o.dst v)):yx P ops S (o::os) K a:=⟨v,Or.inl ⟨h,hy⟩,hr⟩
theorem YK{w:World}{f:Nat}(hs:Region.noSelect ops=true)(hQ:∀c a d v w,Q (.panic c) (Act.put a d v) w->Q (.panic c) a w)(hS:S w):
 ∀(is:List Nat)(os:List Oper)(ds:List Nat)(a:Act),is.map (fun i=>ops[i]?)=os.map some->MH md ops is ds=true->yx P ops S os (fun a'=>wpAnyH P md ops Q S f (xC ops.size (is.reverse++ds)) a' w) a->wpAnyH P md ops Q S (is.length+f) (xC ops.size ds) a w
 |[],[],ds,a,_,_,h=>by
  rw[List.length_nil,Nat.zero_add];exact h
 |[],_::_,_,_,he,_,_=>by cases he
 |_::_,[],_,_,he,_,_=>by cases he
 |i::is,o::os,ds,a,he,hB,h=>by
  simp only[MH,Ym,Bool.and_eq_true,Bool.not_eq_true',List.contains_eq_mem,decide_eq_false_iff_not]at hB;obtain⟨⟨⟨h1,h2⟩,h3⟩,h4⟩:=hB;obtain⟨v,hy,hr⟩:=h;simp only[List.map_cons,List.cons.injEq]at he;obtain⟨ho,he⟩:=he;rw[ho]at h3;simp only[Option.map_some,Option.getD_some,Array.all_eq_true_iff_forall_mem]at h3;have hi:i<ops.size:=(Array.getElem?_eq_some_iff.1 ho).1;rw[List.length_cons,show is.length+1+f=(is.length+f)+1 by omega];refine wpAnyH_first ho (Region.noSelect_spec hs) (fun c a w=>hQ c a _ _ w) _ _ a w (fun j oj hj hne hun hno=>aby ho h2 j oj hj hne (fun hm=>?_) hno) ?_ hy hS ?_
  .have k1:=Py ops.size ds j hm (Array.getElem?_eq_some_iff.1 hj).1;rw[getD_both hun]at k1;cases k1
  .refine mem_ready.2 ⟨getD_in (by rw[Pz];exact hi) (VN _ ds i h1),o,ho,fun e he hb=>?_⟩;have:=h3 e he;rw[hb]at this;simp only[Bool.not_true,Bool.false_or,Bool.and_eq_true,decide_eq_true_eq]at this;exact Py _ ds _ (by simpa using this.1) this.2
  .have key:wpAnyH P md ops Q S (is.length+f) (xC ops.size (i::ds)) (a.put o.dst v) w:=YK hs hQ hS is os (i::ds) (a.put o.dst v) he h4 (by
    rw[List.reverse_cons,List.append_assoc]at hr;exact hr)
   exact key
theorem ajC{id f:Nat}{a:Act}{w:World}{l:List Oper}(S:World->Prop)(is:List Nat)(m:Array Bool)(os:List Oper->List Oper)(hm:P.follows .mixedOrders=true)(hs:Region.noSelect l.toArray=true)(hf:is.length+f=l.toArray.size)(ho:is.map (fun i=>l.toArray[i]?)=(os l).map some)(hB:MH .any l.toArray is []=true)(hmk:xC l.toArray.size (is.reverse++[])=m)(hS:S w.drew)
 (h:S w.drew->yx P l.toArray S (os l) (fun a'=>wpAnyH P .any l.toArray (NoPanic Q) S f m a' w.drew) a):(Code.region id l.toArray true).wp P Q a w:=by
 refine wp_region_noPanic (wp_region_held_drew (S:=S) hm hS fun hh=>?_);have:=YK (P:=P) (md:=.any) (ops:=l.toArray) (Q:=NoPanic Q) (f:=f) hs (fun c a d v w h=>h) hS is (os l) [] a ho hB (by rw[hmk];exact h hh);rw[hf]at this;exact this
theorem Ej{fuel:Nat}{listed:Array Bool}{a:Act}{w:World}{i:Nat}{o:Oper}{rs:List Nat}{l:List Oper}(ho:l[i]? =some o)
 (h:∀K':Act->World->Prop,Shut (∀a w,S w->(S w->wpAnyH P md l.toArray Q S fuel (listed.setIfInBounds i true) a w)->K' a w)->if Region.wanted o (yielded l.toArray a.tmps)=true then Oper.wp P o a w K' Q else K' (a.put o.dst undef) w)
 (hs:AllReadyH P md l.toArray Q S fuel listed a w rs):AllReadyH P md l.toArray Q S fuel listed a w (i::rs):=
 AllReadyH.cons (o:=o) (by simpa using ho) h hs
theorem take_one{i:Nat}{oi:Oper}{v:Value}{fuel:Nat}{listed:Array Bool}{a:Act}{w:World}{l:List Oper}(hi:l[i]? =some oi)
 (hs:Region.noSelect l.toArray=true)(hf:Region.free md l.toArray listed i=true)(hr:(Region.ready md l.toArray listed).contains i=true)
 (hQ:∀c a w,Q (.panic c) (a.put oi.dst v) w->Q (.panic c) a w)(hw:Region.wanted oi (yielded l.toArray a.tmps)=true)(hy:∀w,S w->(execOp a.eval oi).run P w=.ok (.value v) w)(hS:S w)
 (h:wpAnyH P md l.toArray Q S fuel (listed.setIfInBounds i true) (a.put oi.dst v) w):wpAnyH P md l.toArray Q S (fuel+1) listed a w:=
 wpAnyH_take (by simpa using hi) hs hf hr hQ (Or.inl ⟨hw,hy⟩) hS h
end
end
end Go.Proofs.YthllhabjfchgiaaGreatDoor
