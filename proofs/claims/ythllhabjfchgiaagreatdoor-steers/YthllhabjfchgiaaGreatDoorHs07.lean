import Derived.Scope
import Derived.ScopeJumps
import Derived.Test.YthllhabjfchgiaaGreatDoorHs03
import Derived.BigRegion
import Derived.StillTailTactics
set_option maxRecDepth 100000
set_option maxHeartbeats 8000000
set_option linter.unusedSimpArgs false
namespace Go.Proofs.YthllhabjfchgiaaGreatDoor
open _root_.Go.Proofs.Tryz
section
open Go
section
variable {P:Program}{ops:Array Oper}{md:Region.Mode}{S:jk->Prop}{Q:Exit->Act->jk->Prop}
def CZ(n:Nat)(ds:List Nat):Array Bool:=ds.foldr (λi m=>m.setIfInBounds i true) (Array.replicate n false)
theorem WZ(n:Nat):∀b:List Nat,(CZ n b).size=n
 |[]=>by simp[CZ]
 |i::b=>by
  show((CZ n b).setIfInBounds i true).size=n;rw[Array.size_setIfInBounds];exact WZ n b
theorem aeM(n:Nat):∀(b:List Nat)(j:Nat),j∉b->(CZ n b).getD j false=false
 |[],j,_=>getD_replicate_false n j
 |i::b,j,h=>by
  show((CZ n b).setIfInBounds i true).getD j false=false;rw[getD_set_ne false (λe=>h (by rw[e];exact aW))];exact aeM n b j (λe=>h (aI _ e))
theorem WY(n:Nat):∀(b:List Nat)(j:Nat),j∈b->j<n->(CZ n b).getD j false=true
 |[],j,h,_=>jl h dU
 |i::b,j,h,hj=>by
  show((CZ n b).setIfInBounds i true).getD j false=true;by_cases e:i=j
  .subst e;have:=WZ n b;simp[this,hj]
  .rw[getD_set_ne false e];rcases dh.1 h with c|c
   .exact jl c.symm e
   .exact WY n b j c hj
def Vs(md:Region.Mode)(ops:Array Oper)(ds:List Nat)(i:Nat):Bool:=
 match ops[i]?with
 |none=>false
 |some oi=>(List.range ops.size).all λj=>j==i||ds.contains j||match ops[j]?with
   |some oj=>oj.after.any (λe=>Region.binds md e&&e.on==i)||oi.apart ops oj
   |none=>true
theorem alU{ds:List Nat}{i:Nat}{o:Oper}(hi:ops[i]? =some o)(h:Vs md ops ds i=true)(j:Nat)(l:Oper)(n:ops[j]? =some l)(c:j≠i)(f:j∉ds)(d:∀e∈l.after,Region.binds md e=true->e.on≠i):o.apart ops l=true:=by
 simp only[Vs,hi,List.all_eq_true,List.mem_range]at h;have b:=h j (Array.getElem?_eq_some_iff.1 n).1;have p:ds.contains j=false:=by simpa using f
 simp only[n,iU,beq_iff_eq,c,false_or,p,aH]at b;rcases b with b|b
 .obtain⟨k,q,g⟩:=Array.any_eq_true.1 b;simp only[dD,beq_iff_eq]at g;exact jl g.2 (d _ (Array.getElem_mem q) g.1)
 .exact b
def ahY(md:Region.Mode)(ops:Array Oper)(ds:List Nat)(i:Nat):Bool:=
 !ds.contains i&&Vs md ops ds i&&((ops[i]?).map (·.after.all λe=>!Region.binds md e||(ds.contains e.on&&decide (e.on<ops.size)))).getD false
def TF(md:Region.Mode)(ops:Array Oper):List Nat->List Nat->Bool
 |[],_=>true
 |i::is,ds=>ahY md ops ds i&&TF md ops is (i::ds)
def zo(P:Program)(ops:Array Oper)(S:jk->Prop):List Oper->(Act->Prop)->Act->Prop
 |[],K,a=>K a
 |o::os,K,a=>∃v,YieldsIf P ops S o v a/\zo P ops S os K (a.put o.dst v)
theorem zo.nil{K:Act->Prop}{a:Act}(h:K a):zo P ops S [] K a:=h
theorem zo.cons{o:Oper}{os:List Oper}{K:Act->Prop}{a:Act}{v:jm}(h:Region.wanted o (yielded ops a.tmps)=true)(c:∀w,S w->(execOp a.eval o).run P w=.ok (.value v) w)(b:zo P ops S os K (a.put o.dst v)):zo P ops S (o::os) K a:=⟨v,jf ⟨h,c⟩,b⟩
theorem aix{w:jk}{f:Nat}(A:Region.noSelect ops=true)(u:∀c a d v w,Q (.panic c) (Act.put a d v) w->Q (.panic c) a w)(x:S w):
 ∀(k:List Nat)(n:List Oper)(b:List Nat)(a:Act),k.map (λi=>ops[i]?)=n.map some->TF md ops k b=true->zo P ops S n (λE=>wpAnyH P md ops Q S f (CZ ops.size (k.reverse++b)) E w) a->wpAnyH P md ops Q S (k.length+f) (CZ ops.size b) a w
 |[],[],b,a,_,_,h=>by
  rw[bg,gW];exact h
 |[],_::_,_,_,g,_,_=>by cases g
 |_::_,[],_,_,g,_,_=>by cases g
 |i::k,o::n,b,a,g,hB,h=>by
  simp only[TF,ahY,dD,Bool.not_eq_true',List.contains_eq_mem,decide_eq_false_iff_not]at hB;obtain⟨⟨⟨F,G⟩,p⟩,H⟩:=hB;obtain⟨v,L,z⟩:=h;simp only[dL,iy]at g;obtain⟨l,g⟩:=g;rw[l]at p;simp only[iH,Option.getD_some,Array.all_eq_true_iff_forall_mem]at p;have J:i<ops.size:=(Array.getElem?_eq_some_iff.1 l).1;rw[aF,show k.length+1+f=(k.length+f)+1 by omega];refine wpAnyH_first l (Region.noSelect_spec A) (λc a w=>u c a _ _ w) _ _ a w (λj N y q s r=>alU l G j N y q (λK=>?_) r) ?_ L x ?_
  .have D:=WY ops.size b j K (Array.getElem?_eq_some_iff.1 y).1;rw[getD_both s]at D;cases D
  .refine mem_ready.2 ⟨getD_in (by rw[WZ];exact J) (aeM _ b i F),o,l,λe g I=>?_⟩;have:=p e g;rw[I]at this;simp only[jc,gZ,dD,decide_eq_true_eq]at this;exact WY _ b _ (by simpa using this.1) this.2
  .have t:wpAnyH P md ops Q S (k.length+f) (CZ ops.size (i::b)) (a.put o.dst v) w:=aix A u x k n (i::b) (a.put o.dst v) g H (by
    rw[fJ,bY]at z;exact z)
   exact t
theorem aak{r f:Nat}{a:Act}{w:jk}{l:List Oper}(S:jk->Prop)(is:List Nat)(m:Array Bool)(os:List Oper->List Oper)(o:P.follows .mixedOrders=true)(q:Region.noSelect l.toArray=true)(k:is.length+f=l.toArray.size)(p:is.map (λi=>l.toArray[i]?)=(os l).map some)(j:TF .any l.toArray is []=true)(b:CZ l.toArray.size (is.reverse++[])=m)(e:S w.drew)
 (h:S w.drew->zo P l.toArray S (os l) (λg=>wpAnyH P .any l.toArray (NoPanic Q) S f m g w.drew) a):(Code.region r l.toArray true).wp P Q a w:=by
 refine wp_region_noPanic (wp_region_held_drew (S:=S) o e λn=>?_);have:=aix (P:=P) (md:=.any) (ops:=l.toArray) (Q:=NoPanic Q) (f:=f) q (λc a d v w h=>h) e is (os l) [] a p j (by rw[b];exact h n);rw[k]at this;exact this
theorem lW{fuel:Nat}{b:Array Bool}{a:Act}{w:jk}{i:Nat}{o:Oper}{rs:List Nat}{l:List Oper}(d:l[i]? =some o)
 (h:∀c:Act->jk->Prop,Shut (∀a w,S w->(S w->wpAnyH P md l.toArray Q S fuel (b.setIfInBounds i true) a w)->c a w)->if Region.wanted o (yielded l.toArray a.tmps)=true then Oper.wp P o a w c Q else c (a.put o.dst undef) w)
 (e:AllReadyH P md l.toArray Q S fuel b a w rs):AllReadyH P md l.toArray Q S fuel b a w (i::rs):=
 AllReadyH.cons (o:=o) (by simpa using d) h e
end
section
def aaT(J:Nat->Act->jk->Prop)(Q:Exit->Act->jk->Prop):Exit->Act->jk->Prop
 | .goto l,a,w=>J l a w
 |e,a,w=>Q e a w
variable {P:Program}{a:Act}{w:jk}{Q:Exit->Act->jk->Prop}
theorem avM{c:Code}(j:Nat->Code)(J:Nat->Act->jk->Prop)(μ:Nat->Act->jk->Nat)(I:∀l a w,J l a w->findLabel c l=some (j l))
 (first:c.wp P (aaT J Q) a w)
 (s:∀l a w,J l a w->(j l).wp P (aaT (λo q t=>J o q t/\μ o q t<μ l a w) Q) a w):(Code.scope c).wp P Q a w:=by
 intro b k u;have G:∀l a w,J l a w->gotoIn l (.inScope c::k)=some (.code (j l)::.inScope c::k):=λl a w h=>by simp[gotoIn,I l a w h]
 have E:∀n l a w,μ l a w=n->J l a w->∃e q t,Q e q t/\Arrives P (lone (b.at a (.code (j l)::.inScope c::k)) u w) b k u e q t:=by
  intro n;induction n using Nat.strongRecOn with
  |_ n ih=>
   intro l a w L H;obtain⟨e,f,g,i,d⟩:=s l a w H b (.inScope c::k) u;cases e with
   |normal=>exact⟨.normal,f,g,i,Steps.trans d (.one step_inScope)⟩
   |exit id=>exact⟨.exit id,f,g,i,λD A=>d D (by simp[exitTo,A])⟩
   |goto o=>
    obtain⟨r,K⟩:=i;obtain⟨z,y,F,p,x⟩:=ih _ (by omega) o f g rfl r;exact⟨z,y,F,p,.of_steps (d _ (G o f g r)) x⟩
   |ret=>exact⟨_,f,g,i,d⟩
   |panic ch=>exact⟨_,f,g,i,d⟩
   |outgrown=>exact⟨_,f,g,i,d⟩
 obtain⟨e,f,g,i,d⟩:=first b (.inScope c::k) u
 cases e with
 |normal=>exact⟨.normal,f,g,i,.head step_scope (Steps.trans d (.one step_inScope))⟩
 |exit id=>exact⟨.exit id,f,g,i,λD A=>.head step_scope (d D (by simp[exitTo,A]))⟩
 |goto o=>
  obtain⟨z,y,F,p,x⟩:=E _ o f g rfl i;exact⟨z,y,F,p,.of_steps (.head step_scope (d _ (G o f g i))) x⟩
 |ret=>exact⟨_,f,g,i,.of_steps (.one step_scope) d⟩
 |panic ch=>exact⟨_,f,g,i,.of_steps (.one step_scope) d⟩
 |outgrown=>exact⟨_,f,g,i,.of_steps (.one step_scope) d⟩
end
end
section
open Go.RowKit
open Hx (Rd Pk Vw St Mc jK)
section
variable {B C:Nat}{w:jk}{M SB:Nat}{v:Vw}{m:Mc}
theorem agf(d:kP B C w M SB v m)(i j:Int)(l:j<=9223372036854775807)(s:m.jP.length<=256):
 Calls prog 54 #[Pt M 0,Im i,Im j] w λe k=>e=.returned (.bool (Hx.push v i j m).isSome)/\(∀g,Hx.push v i j m=some g->kP B C k M SB v g)/\Below B w k:=by
 cases c:v.mG i with
 |none=>
  refine(agi d i j l (jf c)).mono ?_;rintro e k ⟨rfl,rfl⟩;have b:Hx.push v i j m=some m:=by simp[Hx.push,c]
  rw[b];exact⟨rfl,λg h=>by cases h;exact d,dK _ _⟩
 |some r=>
  cases f:v.nJ j with
  |none=>
   refine(agi d i j l (je f)).mono ?_;rintro e k ⟨rfl,rfl⟩;have b:Hx.push v i j m=some m:=by simp[Hx.push,c,f]
   rw[b];exact⟨rfl,λg h=>by cases h;exact d,dK _ _⟩
  |some p=>
   by_cases n:m.jP.length=256
   .refine(ars d i j r p l c f n).mono ?_;rintro e k ⟨rfl,rfl⟩;have b:Hx.push v i j m=none:=by simp[Hx.push,c,f,n]
    rw[b];exact⟨rfl,λg h=>(by cases h),dK _ _⟩
   .refine(aru d i j r p l c f (by omega)).mono ?_;rintro e k ⟨rfl,o,q⟩;have b:Hx.push v i j m=some {m with jP:=m.jP++[(r.id,p.seq)]}:=by simp[Hx.push,c,f,n]
    rw[b];exact⟨rfl,λg h=>(by cases h;exact o),q⟩
def vG(status:Int)(va:jm)(jF:List Int):jm:=
 .agg #[.int .u8 status,va,Im (jF.getD 0 0),Im (jF.getD 1 0),Im (jF.getD 2 0),Im (jF.getD 3 0),Im (jF.getD 4 0),Im (jF.getD 5 0),Im (jF.getD 6 0),Im (jF.getD 7 0)]
theorem atb(w:jk)(n:Nat)(x:Addr)(u:jm):(w.drewN n).setCell x u=(w.setCell x u).drewN n:=rfl
attribute [local go_sem] atb
theorem run_arrayAt(P:Program)(t n:Nat)(e:jo)(h:P.underlying t=some (.array n e))(a:Option Addr)(b cap:Nat)(d:n<=b)(w:jk):
 (Instr.arrayAt t (.slice a b cap)).run P w=.ok (.pointer a) w:=by
 have c:¬b<n:=by omega
 simp[Instr.arrayAt,go_sem,run_underlying h,c]
theorem alg(b:kP B C w M SB v m)(Z:8<=m.jD.length):
 Calls prog 51 #[Pt M 0] w λe w'=>∃f,e=.returned (vG 0 f m.jD)/\w'.ownsRow C 76 2 f m.jP.length (nT m.jP)/\Below B w w':=by
 obtain⟨f,A,c⟩:=b.jP;have y:=b.size;have s:=b.cS;have q:=b.cM;have h:=b.bM;have u:Hid (∀(o:Obj)(n:Nat),((w.alloc o).drewN n).ownsRow C 76 2 f m.jP.length (nT m.jP)/\Below B w ((w.alloc o).drewN n)):=λo n=>
  ⟨(c.alloc o).kept (w':=(w.alloc o).drewN n) (row:=none) ⟨rfl,rfl,rfl,aj _,λ_ _ _=>rfl⟩ (by cases f.ownBlock<;>simp),below_drewN ((dK _ _).alloc (by omega) o) n⟩
 obtain⟨l,d,i⟩:∃l d,f=.slice l m.jP.length d:=by
  obtain⟨s,q⟩:=c;rcases q with⟨h,t⟩|⟨g,d,x,h,t⟩
  .exact⟨none,0,by rw[h,t]⟩
  .exact⟨_,_,h⟩
 subst i;have hs:=b.jD;have O:=b.slot 0 (by omega);have R:=b.slot 1 (by omega);have T:=b.slot 2 (by omega);have U:=b.slot 3 (by omega);have V:=b.slot 4 (by omega);have W:=b.slot 5 (by omega);have X:=b.slot 6 (by omega);have Y:=b.slot 7 (by omega);have n1:¬SB=w.heap.size:=by omega
 have n2:¬M=w.heap.size:=by omega
 have N:SB<w.heap.size:=by omega
 have hM:M<w.heap.size:=by omega
 have z:(8:Int)<=(m.jD.length:Int):=by omega
 unfold vG;clear b y s q h c;generalize nT m.jP=p at *;generalize m.jP.length=D at *;generalize m.jD.getD 0 0=E at *;generalize m.jD.getD 1 0=F at *;generalize m.jD.getD 2 0=G at *;generalize m.jD.getD 3 0=H at *;generalize m.jD.getD 4 0=I at *;generalize m.jD.getD 5 0=J at *;generalize m.jD.getD 6 0=K at *;generalize m.jD.getD 7 0=L at *;generalize m.jD.length=k at *;have ka:=λ(w:jk)=>run_arrayAt prog 26 8 3 Tryz.underlying26 (some (Ad SB 0)) k k (by omega) w;go_enter func51,ntmps51;go_wp2_with fail;refine nO 11 (by kernel_rfl) (by kernel_rfl) ?_;simp only[aC,aO,aG,aQ];repeat (go_big_quiet_step (fail))
 refine bF ?_;intro _ r;obtain⟨n3,j⟩:=r;subst j;go_wp2;exact cu (v:=.agg #[.int .u8 0,.slice l D d,Im E,Im F,Im G,Im H,Im I,Im J,Im K,Im L]) (by simp[results,Tryz.results51,go_sem]) rfl ⟨_,rfl,u.out _ _⟩
end
section
variable {B C:Nat}{w:jk}{M SB:Nat}{v:Vw}{m:Mc}
theorem akg(g:kP B C w M SB v m)(b o:Nat)(q l x:Int)(c:Nat)(d:Int)(f:Nat)(t:Int)(k:zZ w b o ⟨q,l,x,c,d,f,t⟩)(I:c<m.jD.length)(j:f<8):
 Calls prog 52 #[Pt M 0,Pt b o] w λe E=>e=.returned (.tuple #[])/\kP B C E M SB v (Hx.rX v ⟨q,l,x,c,d,f,t⟩ m)/\Below B w E:=by
 have i:Hid (∀n,kP B C ((w.drewN n).setCell (Ad M (4+f)) (.int .u64 (Hx.nY (bits .and .i64 (m.jD.getD c 0) (v.all l))))) M SB v (Hx.rX v ⟨q,l,x,c,d,f,t⟩ m)/\
  Below B w ((w.drewN n).setCell (Ad M (4+f)) (.int .u64 (Hx.nY (bits .and .i64 (m.jD.getD c 0) (v.all l)))))):=λn=>by
  refine⟨?_,(below_drewN (dK _ _) n).setCell (p:=(Ad M (4+f))) g.bM _⟩;have:=(g.drewN n).lY j (Hx.FT (bits .and .i64 (m.jD.getD c 0) (v.all l)));simpa [Hx.rX,Hx.Mc.get]using this
 have G:=jA (λn=>(g.drewN n).view);have U:=g.jD;have O:=g.slot c I;have R:=g.left f j;have T:=g.KA f j;obtain⟨z,J,A,K,D,L,N⟩:=k;simp only at z J A K D L;clear g N D A z;generalize Hx.rX v ⟨q,l,x,c,d,f,t⟩ m=Z at i⊢;generalize m.jD.getD c 0=F at *;generalize m.left.getD f 0=xl at *;generalize u:Hx.nY (bits .and .i64 F (v.all l))=y at i;have H:Hid (IntKind.u64.wrap (bits .and .i64 F (v.all l))=y):=u;clear u;generalize m.jD.length=s at *;have V:(0:Int)<=(c:Int):=by omega
 have X:(c:Int)<(s:Int):=by omega
 have W:(0:Int)<=(f:Int):=by omega
 have Y:(f:Int)<8:=by omega
 go_enter func52,ntmps52;go_wp2_with fail;go_quiet (fail);go_wp2_with fail;refine Dp 14 (by kernel_rfl) (by kernel_rfl) ?_;simp only[aC,aO,aG,aQ];repeat (go_big_quiet_step ((go_at_call 95;exact dN (aa5 B M l v _ (G.out _)))))
 refine bF ?_;intro _ r;obtain⟨n2,h⟩:=r;subst h;rw[H.out];go_wp2;go_end0;exact⟨rfl,i.out _⟩
theorem au6(g:kP B C w M SB v m)(b o n cap:Nat)(k:Nat)(q l x c d:Int)(f:Nat)(t:Int)(G:k<n)(h:zZ w b (o+k * 7) ⟨q,l,x,c,d,f,t⟩)(D:f<8)(i:m.left.getD f 0=0):
 Calls prog 53 #[Pt M 0,.slice (some (Ad b o)) n cap,Im k] w λe y=>e=.returned (Im t)/\kP B C y M SB v m/\Below B w y:=by
 have z:Hid (∀n,kP B C (w.drewN n) M SB v m/\Below B w (w.drewN n)):=λn=>⟨g.drewN n,below_drewN (dK _ _) n⟩;have A:=g.left f D;rw[i]at A;obtain⟨j,p,r,s,u,E,F⟩:=h;simp only at j p r s u E F;clear g u r j s p i;have H:(0:Int)<=(f:Int):=by omega
 have J:(f:Int)<8:=by omega
 have I:(0:Int)<=(k:Int):=by omega
 have K:(k:Int)<(n:Int):=by omega
 go_enter func53,ntmps53;go_wp2_with fail;go_quiet (fail);go_wp2_with fail;go_ret;exact⟨rfl,z.out _⟩
theorem au5(g:kP B C w M SB v m)(b o n cap:Nat)(k:Nat)(q l:Int)(x:Nat)(c d:Int)(f:Nat)(t:Int)(hb:b<B)(hk:k<n)(hn:n<=1000000)(y:zZ w b (o+k * 7) ⟨q,l,x,c,d,f,t⟩)(A:x<m.jD.length)(u:f<8)(H:¬m.left.getD f 0=0):
 Calls prog 53 #[Pt M 0,.slice (some (Ad b o)) n cap,Im k] w λe O=>e=.returned (Im (k+1))/\
  kP B C O M SB v ((m.put x (Hx.tz (m.left.getD f 0))).lY f (bits .and .u64 (m.left.getD f 0) (IntKind.u64.wrap (m.left.getD f 0-1))))/\Below B w O:=by
 have z:=Hx.aii _ (g.IY f).1 (g.IY f).2
 have G:Hid (∀s j,kP B C ((((w.drewN s).setCell (Ad SB x) (Im (Hx.tz (m.left.getD f 0)))).drewN j).setCell (Ad M (4+f)) (.int .u64 (bits .and .u64 (m.left.getD f 0) (IntKind.u64.wrap (m.left.getD f 0-1))))) M SB v
       ((m.put x (Hx.tz (m.left.getD f 0))).lY f (bits .and .u64 (m.left.getD f 0) (IntKind.u64.wrap (m.left.getD f 0-1))))/\
  Below B w ((((w.drewN s).setCell (Ad SB x) (Im (Hx.tz (m.left.getD f 0)))).drewN j).setCell (Ad M (4+f)) (.int .u64 (bits .and .u64 (m.left.getD f 0) (IntKind.u64.wrap (m.left.getD f 0-1)))))):=λs j=>by
  refine⟨?_,(below_drewN ((below_drewN (dK _ _) s).setCell (p:=(Ad SB x)) g.bS _) j).setCell (p:=(Ad M (4+f))) g.bM _⟩;refine(((g.drewN s).put A ?_).drewN j).lY u ?_
  .exact⟨by omega,by omega⟩
  .exact⟨bits_lo_u64 _ _ _,by have:=bits_hi_u64 .and (m.left.getD f 0) (IntKind.u64.wrap (m.left.getD f 0-1));omega⟩
 have T:=jA (λn=>(g.drewN n).LP);have hs:=g.jD;have cx:=g.slot x A;have fx:=g.Dj x A;have cl:=g.left f u;have fl:=g.KA f u;have X:¬SB=M:=λe=>g.ne e.symm;have U:¬b=SB:=by have:=g.bS;omega
 have Y:¬SB=b:=λe=>U e.symm;have W:=g.IY f;obtain⟨I,J,Z,K,L,s5,N⟩:=y;simp only at I J Z K L s5 N;clear g L I K J N z;generalize ((m.put x (Hx.tz (m.left.getD f 0))).lY f (bits .and .u64 (m.left.getD f 0) (IntKind.u64.wrap (m.left.getD f 0-1))))=m' at G⊢;generalize m.left.getD f 0=R at *;generalize m.jD.getD x 0=xx at *;obtain⟨D,r⟩:=W;have V:(R==0)=false:=by simpa using H
 have F:=jA (jd D r);clear H r;generalize m.jD.length=E at *;have i3:(0:Int)<=(x:Int):=by omega
 have j3:(x:Int)<(E:Int):=by omega
 have i4:(0:Int)<=(f:Int):=by omega
 have j4:(f:Int)<8:=by omega
 have i5:(0:Int)<=(k:Int):=by omega
 have j5:(k:Int)<(n:Int):=by omega
 go_enter func53,ntmps53;go_wp2_with fail;go_quiet (fail);go_wp2_with fail;refine Dp 12 (by kernel_rfl) (by kernel_rfl) ?_;simp only[aC,aO,aG,aQ];repeat (go_big_quiet_step ((go_at_call 96;exact dN (aif R F.out.1 F.out.2 _ (T.out _)))))
 refine bF ?_;intro _ i;obtain⟨j,h⟩:=i;subst h;go_wp2_with fail;refine nO 12 (by kernel_rfl) (by kernel_rfl) ?_;simp only[aC,aO,aG,aQ];repeat (go_big_quiet_step (fail))
 refine bF ?_;intro _ i;obtain⟨n3,h⟩:=i;subst h;go_wp2;go_ret;exact⟨rfl,G.out _ _⟩
theorem Yz(A:kP B C w M SB v m)(b o n cap:Nat)(k:Nat)(s:St)(D:b<B)(z:k<n)(E:n<=1000000)(g:zZ w b (o+k * 7) s)(u:St.slot m.jD.length s.b)(y:0<=s.depth/\s.depth<8):
 Calls prog 53 #[Pt M 0,.slice (some (Ad b o)) n cap,Im k] w λe j=>e=.returned (Im (Hx.kR s k m).2)/\kP B C j M SB v (Hx.kR s k m).1/\Below B w j:=by
 obtain⟨q,a,x,c,d,f,t⟩:=s;obtain⟨h,u⟩:=u;simp only at h u y;obtain⟨x,rfl⟩:=bI h;obtain⟨f,rfl⟩:=bI y.1;by_cases i:m.left.getD f 0=0
 .refine(au6 A b o n cap k q a x c d f t z g (by omega) i).mono ?_;rintro e j ⟨rfl,p,r⟩;have l:Hx.kR ⟨q,a,x,c,d,f,t⟩ k m=(m,t):=by
   unfold Hx.kR;rw[jh];simpa [Hx.Mc.ni]using i
  rw[l];exact⟨rfl,p,r⟩
 .refine(au5 A b o n cap k q a x c d f t D z E g (by omega) (by omega) i).mono ?_;rintro e j ⟨rfl,p,r⟩;have l:Hx.kR ⟨q,a,x,c,d,f,t⟩ k m=((m.put x (Hx.tz (m.left.getD f 0))).lY f (bits .and .u64 (m.left.getD f 0) (IntKind.u64.wrap (m.left.getD f 0-1))),(k:Int)+1):=by
   unfold Hx.kR;rw[jg]
   .simp[Hx.Mc.ni]
   .simpa [Hx.Mc.ni]using i
  rw[l];exact⟨rfl,p,r⟩
theorem arJ(c:kP B C w M SB v m){a b:Nat}{x y:Int}(d:a<m.jD.length)(e:b<m.jD.length)(f:jK x)(g:jK y)(o:Obj)(n:Nat):
 kP B C ((((w.alloc o).drewN n).setCell (Ad SB a) (Im x)).setCell (Ad SB b) (Im y)) M SB v ((m.put a x).put b y)/\
 Below B w ((((w.alloc o).drewN n).setCell (Ad SB a) (Im x)).setCell (Ad SB b) (Im y)):=by
 refine⟨(((c.alloc o).drewN n).put d f).put (by simpa [Hx.Mc.put]using e) g,?_⟩;have:=c.bS;have h:=c.size;have i:=c.cS;exact((below_drewN ((dK _ _).alloc (by omega) o) n).setCell (p:=(Ad SB a)) this _).setCell (p:=(Ad SB b)) this _
theorem ak0(i:kP B C w M SB v m)(a b c d:Nat)(f:Bool)(q:a<m.jD.length)(r:b<m.jD.length)(A:c<m.jD.length)(D:d<m.jD.length)
 (t:f=true\/m.jD.getD a 0= -1):
 Calls prog 99 #[Pt M 0,.agg #[Im a,Im b,Im c,Im d],.bool f] w λe j=>e=.returned (.tuple #[])/\kP B C j M SB v ((m.put a (m.jD.getD c 0)).put b (m.jD.getD d 0))/\Below B w j:=by
 have l:Hid (∀o n,kP B C ((((w.alloc o).drewN n).setCell (Ad SB a) (Im (m.jD.getD c 0))).setCell (Ad SB b) (Im (m.jD.getD d 0))) M SB v ((m.put a (m.jD.getD c 0)).put b (m.jD.getD d 0))/\
  Below B w ((((w.alloc o).drewN n).setCell (Ad SB a) (Im (m.jD.getD c 0))).setCell (Ad SB b) (Im (m.jD.getD d 0)))):=λo n=>arJ i q r (i.D6 c) (i.D6 d) o n
 have O:=i.jD;have G:=i.slot a q;have H:=i.slot b r;have I:=i.slot c A;have J:=i.slot d D;have K:=i.Dj a q;have L:=i.Dj b r;have u:=i.size;have x:=i.cS;have y:=i.cM;have n1:¬SB=w.heap.size:=by omega
 have n3:¬SB=M:=λe=>i.ne e.symm;have n2:¬M=w.heap.size:=by omega
 have F:SB<w.heap.size:=by omega
 have N:M<w.heap.size:=by omega
 generalize s:(m.put a (m.jD.getD c 0)).put b (m.jD.getD d 0)=m' at l⊢;clear s i u x y;generalize m.jD.getD a 0=E at *;generalize m.jD.getD b 0=xb at *;generalize m.jD.getD c 0=xc at *;generalize m.jD.getD d 0=xd at *;generalize m.jD.length=g at *;have R:(0:Int)<=(a:Int):=by omega
 have T:(0:Int)<=(b:Int):=by omega
 have U:(0:Int)<=(c:Int):=by omega
 have V:(0:Int)<=(d:Int):=by omega
 have W:(a:Int)<(g:Int):=by omega
 have X:(b:Int)<(g:Int):=by omega
 have Y:(c:Int)<(g:Int):=by omega
 have Z:(d:Int)<(g:Int):=by omega
 have p:f=true\/f=false/\E= -1:=by
  cases f
  .exact je ⟨rfl,t.resolve_left (by simp)⟩
  .exact jf rfl
 clear t;rcases p with rfl|⟨rfl,rfl⟩;all_goals
  by_cases k:a=b
  .subst k;go_enter func99,ntmps99;go_wp2_with fail;go_quiet (fail);go_wp2_with fail;go_quiet (fail);go_wp2_with fail;go_region_held3 (λj=>j.cell? (Ad M 3)=some (.slice (some (Ad SB 0)) g g)/\j.cell? (Ad w.heap.size 0)=some (Im a)/\j.cell? (Ad w.heap.size 1)=some (Im a)) (go_keep) (fail);go_wp2;go_end0;exact⟨rfl,l.out _ _⟩
  .have z:¬b=a:=λh=>k h.symm;go_enter func99,ntmps99;go_wp2_with fail;go_quiet (fail);go_wp2_with fail;go_quiet (fail);go_wp2_with fail;go_region_held3 (λj=>j.cell? (Ad M 3)=some (.slice (some (Ad SB 0)) g g)/\j.cell? (Ad w.heap.size 0)=some (Im a)/\j.cell? (Ad w.heap.size 1)=some (Im b)) (go_keep) (fail);go_wp2;go_end0;exact⟨rfl,l.out _ _⟩
theorem akY(f:kP B C w M SB v m)(a b c d:Nat)(r:a<m.jD.length)(s:c<m.jD.length)(t:d<m.jD.length)
 (j:¬m.jD.getD a 0= -1):
 Calls prog 99 #[Pt M 0,.agg #[Im a,Im b,Im c,Im d],.bool false] w λe h=>e=.returned (.tuple #[])/\kP B C h M SB v m/\Below B w h:=by
 have k:=f.size;have l:=f.cS;have p:=f.cM;have q:=f.bM;have i:Hid (∀o n,kP B C ((w.alloc o).drewN n) M SB v m/\Below B w ((w.alloc o).drewN n)):=λo n=>⟨(f.alloc o).drewN n,below_drewN ((dK _ _).alloc (by omega) o) n⟩;have E:=f.jD;have y:=f.slot a r;have z:=f.slot c s;have A:=f.slot d t;have N:¬SB=w.heap.size:=by omega
 have O:¬M=w.heap.size:=by omega
 have x:SB<w.heap.size:=by omega
 have D:M<w.heap.size:=by omega
 clear f k l p q;generalize m.jD.getD a 0=u at *;generalize m.jD.getD c 0=R at *;generalize m.jD.getD d 0=T at *;generalize m.jD.length=g at *;have G:(0:Int)<=(a:Int):=by omega
 have H:(0:Int)<=(c:Int):=by omega
 have I:(0:Int)<=(d:Int):=by omega
 have J:(a:Int)<(g:Int):=by omega
 have K:(c:Int)<(g:Int):=by omega
 have L:(d:Int)<(g:Int):=by omega
 have F:(u== -1)=false:=by simpa using j
 go_enter func99,ntmps99;go_wp2_with fail;go_quiet (fail);go_wp2_with fail;go_quiet (fail);go_wp2;go_end0;exact⟨rfl,by rw[World.drewN_drewN];exact i.out _ _⟩
theorem ab3(q:kP B C w M SB v m)(a b c d:Nat)(f:Bool)(n:a<m.jD.length)(s:b<m.jD.length)(o:c<m.jD.length)(p:d<m.jD.length):
 Calls prog 99 #[Pt M 0,.agg #[Im a,Im b,Im c,Im d],.bool f] w λe g=>e=.returned (.tuple #[])/\
  kP B C g M SB v (Hx.choose ⟨0,a,b,c,d,0,0⟩ f m)/\Below B w g:=by
 by_cases h:f=true\/m.jD.getD a 0= -1
 .refine(ak0 q a b c d f n s o p h).mono ?_;rintro e g ⟨rfl,i,j⟩;have l:(f||m.get (a:Int)== -1)=true:=by
   rcases h with rfl|h
   .rfl
   .simp only[Hx.Mc.get,bK,h];simp
  refine⟨rfl,?_,j⟩;unfold Hx.choose;rw[jh l];simpa [Hx.Mc.get]using i
 .have k:f=false:=by
   cases f
   .rfl
   .exact jl (jf rfl) h
  subst k;have r:¬m.jD.getD a 0= -1:=λe=>h (je e);refine(akY q a b c d n o p r).mono ?_;rintro e g ⟨rfl,i,j⟩;refine⟨rfl,?_,j⟩;unfold Hx.choose;have l:¬(false||m.get (a:Int)== -1)=true:=by
   simp only[Hx.Mc.get,bK,gZ,beq_iff_eq];exact r
  rw[jg l];exact i
end
end
section
open Go.RowKit
open Hx (Rd Pk Vw St Mc jK)
attribute [local go_sem ↓] Go.wp_at_zero Go.wp_at_succ
section
variable {B C:Nat}{w:jk}{M SB:Nat}{v:Vw}{m:Mc}
theorem agr(b:kP B C w M SB v m){a:Nat}{x:Int}(c:a<m.jD.length)(d:jK x)(o:Obj)(n:Nat):
 kP B C (((w.alloc o).drewN n).setCell (Ad SB a) (Im x)) M SB v (m.put a x)/\
 Below B w (((w.alloc o).drewN n).setCell (Ad SB a) (Im x)):=by
 refine⟨((b.alloc o).drewN n).put c d,?_⟩;have:=b.bS;have e:=b.size;have f:=b.cS;exact(below_drewN ((dK _ _).alloc (by omega) o) n).setCell (p:=(Ad SB a)) this _
theorem U3(w:jk)(x:Addr)(u:jm)(c:Array jm)(t:jo)(i:Nat):((w.setCell x u).alloc (.cells c t)).cell? (Ad w.heap.size i)=c[i]? :=
 fQ _ _ _ _ (by simp)
theorem ags(b:kP B C w M SB v m){a:Nat}{x:Int}(c:a<m.jD.length)(d:jK x)(o:Obj)(n:Nat):
 kP B C (((w.setCell (Ad SB a) (Im x)).alloc o).drewN n) M SB v (m.put a x)/\
 Below B w (((w.setCell (Ad SB a) (Im x)).alloc o).drewN n):=by
 refine⟨((b.put c d).alloc o).drewN n,?_⟩;have:=b.bS;have e:=b.size;have f:=b.cS;exact below_drewN (((dK _ _).setCell (p:=(Ad SB a)) this _).alloc (by simp;omega) o) n
theorem avK(f:kP B C w M SB v m)(b o:Nat)(a:Nat)(x c d p t:Int)(R:b<B)(k:zZ w b o ⟨6,a,x,c,d,p,t⟩)(j:a<m.jD.length)(A:jK x):
 Calls prog 55 #[Pt M 0,Pt b o] w λe h=>e=.returned (.tuple #[])/\kP B C h M SB v (m.put a x)/\Below B w h:=by
 have l:Hid (∀o n,kP B C (((w.setCell (Ad SB a) (Im x)).alloc o).drewN n) M SB v (m.put a x)/\
  Below B w (((w.setCell (Ad SB a) (Im x)).alloc o).drewN n)):=λo n=>ags f j A o n
 have W:=λ(u:jm)(c:Array jm)(i:Nat)=>U3 w (Ad SB a) u c 123 i;have T:=f.jD;have L:=f.slot a j;have N:=f.Dj a j;have q:=f.size;have r:=f.cS;have s:=f.cM;have y:=f.bM;have X:¬SB=w.heap.size:=by omega
 have Z:¬SB=M:=λe=>f.ne e.symm;have Y:¬M=w.heap.size:=by omega
 have n4:¬b=w.heap.size:=by omega
 have K:SB<w.heap.size:=by omega
 have O:M<w.heap.size:=by omega
 have z:b<w.heap.size:=by omega
 obtain⟨D,E,F,G,H,I,J⟩:=k;simp only at D E F G H;clear f q r s y I J;generalize m.jD.getD a 0=xa at *;generalize m.jD.length=g at *;have U:(0:Int)<=(a:Int):=by omega
 have V:(a:Int)<(g:Int):=by omega
 go_enter func55,ntmps55;go_wp2_with fail;go_region_held3 (λh=>h.cell? (Ad M 3)=some (.slice (some (Ad SB 0)) g g)/\h.cell? (Ad w.heap.size 0)=some (Im a)/\h.cell? (Ad w.heap.size 1)=some (Im x)) (go_keep) (fail);go_wp2;go_end0;exact⟨rfl,l.out _ 1⟩
theorem ajJ(v:Vw)(l:Int):jK (v.all l):=by
 unfold Hx.Vw.all Hx.pK;repeat' split
 all_goals exact Hx.D7 _
theorem avF(f:kP B C w M SB v m)(b o:Nat)(a:Nat)(l c d r t:Int)(R:b<B)(k:zZ w b o ⟨21,a,l,c,d,r,t⟩)(j:a<m.jD.length):
 Calls prog 55 #[Pt M 0,Pt b o] w λe h=>e=.returned (.tuple #[])/\kP B C h M SB v (m.put a (v.all l))/\Below B w h:=by
 have p:Hid (∀o n,kP B C (((w.alloc o).drewN n).setCell (Ad SB a) (Im (v.all l))) M SB v (m.put a (v.all l))/\
  Below B w (((w.alloc o).drewN n).setCell (Ad SB a) (Im (v.all l)))):=λo n=>agr f j (ajJ v l) o n
 have W:=λ(u:jm)(c:Array jm)(i:Nat)=>U3 w (Ad SB a) u c 123 i;have q:Hid (∀o n,Ci B ((w.alloc o).drewN n) M v):=λo n=>((f.alloc o).drewN n).view;have L:=f.slot a j;have N:=f.Dj a j;have T:=f.jD;have s:=f.size;have x:=f.cS;have y:=f.cM;have z:=f.bM;have X:¬SB=w.heap.size:=by omega
 have Z:¬SB=M:=λe=>f.ne e.symm;have Y:¬M=w.heap.size:=by omega
 have n4:¬b=w.heap.size:=by omega
 have K:SB<w.heap.size:=by omega
 have O:M<w.heap.size:=by omega
 have A:b<w.heap.size:=by omega
 obtain⟨D,E,F,G,H,I,J⟩:=k;simp only at D E F G H;clear f s x y z I J;generalize m.jD.getD a 0=xa at *;generalize m.jD.length=g at *;have U:(0:Int)<=(a:Int):=by omega
 have V:(a:Int)<(g:Int):=by omega
 go_enter func55,ntmps55;go_wp2_with fail;go_region_held3 (λh=>h.cell? (Ad M 3)=some (.slice (some (Ad SB 0)) g g)/\h.cell? (Ad w.heap.size 0)=some (Im a)/\h.cell? (Ad w.heap.size 1)=some (Im l)) (go_keep)
  ((go_at_call 95;refine(aa5 B M _ v _ (q.out _ 1)).mono ?_;rintro e h ⟨rfl,rfl⟩))
 go_wp2;go_end0;exact⟨rfl,p.out _ 1⟩
theorem avH(f:kP B C w M SB v m)(b o:Nat)(a x:Nat)(c d s t:Int)(W:b<B)(j:zZ w b o ⟨22,a,x,c,d,s,t⟩)(h:a<m.jD.length)(F:x<m.jD.length):
 Calls prog 55 #[Pt M 0,Pt b o] w λe r=>e=.returned (.tuple #[])/\kP B C r M SB v (m.put a (Hx.vZ (m.jD.getD a 0) (m.jD.getD x 0)))/\Below B w r:=by
 have p:Hid (∀o n,kP B C (((w.setCell (Ad SB a) (Im (Hx.vZ (m.jD.getD a 0) (m.jD.getD x 0)))).alloc o).drewN n) M SB v (m.put a (Hx.vZ (m.jD.getD a 0) (m.jD.getD x 0)))/\
  Below B w (((w.setCell (Ad SB a) (Im (Hx.vZ (m.jD.getD a 0) (m.jD.getD x 0)))).alloc o).drewN n)):=λo n=>ags f h (Hx.Kv _ _ _) o n
 have kb:=λ(u:jm)(c:Array jm)(i:Nat)=>U3 w (Ad SB a) u c 123 i;have R:=f.slot a h;have U:=f.Dj a h;have T:=f.slot x F;have X:=f.jD;have y:=f.size;have z:=f.cS;have A:=f.cM;have D:=f.bM;have n1:¬SB=w.heap.size:=by omega
 have n3:¬SB=M:=λe=>f.ne e.symm;have n2:¬M=w.heap.size:=by omega
 have n4:¬b=w.heap.size:=by omega
 have O:SB<w.heap.size:=by omega
 have V:M<w.heap.size:=by omega
 have E:b<w.heap.size:=by omega
 obtain⟨G,H,I,J,K,L,N⟩:=j;simp only at G H I J K;clear f y z A D L N;generalize q:Hx.vZ (m.jD.getD a 0) (m.jD.getD x 0)=kk at p⊢;have l:=q.symm;clear q;generalize m.jD.getD a 0=xa at *;generalize m.jD.getD x 0=k at *;generalize m.jD.length=g at *;unfold Hx.vZ Hx.nY at l;subst l;have Y:(0:Int)<=(a:Int):=by omega
 have j1:(a:Int)<(g:Int):=by omega
 have Z:(0:Int)<=(x:Int):=by omega
 have j2:(x:Int)<(g:Int):=by omega
 have u0:0<=IntKind.u64.wrap k:=by rw[IntKind.wrap_u64];omega
 have u1:IntKind.u64.wrap k%64<64:=by omega
 have u2:0<=IntKind.u64.wrap k%64:=by omega
 go_enter func55,ntmps55;go_wp2_with fail;go_region;go_wp2;go_end0;exact⟨rfl,p.out _ 1⟩
theorem aiy{P:Program}{e:Nat}{Q:Exit->Act->jk->Prop}{a:Act}{w:jk}{l:List Oper}(n:Nat)(d:P.follows .mixedOrders=true)(c:Region.lexTailB .any l.toArray n=true)
 (h:wpStill P l.toArray w.drew (λb=>wpList P l.toArray Q (l.drop n) b w.drew) (l.take n) a):(Code.region e l.toArray true).wp P Q a w:=
 wp_region_still_tail n d c h
theorem avI(g:kP B C w M SB v m)(b o:Nat)(a x c d:Nat)(u t:Int)(W:b<B)(l:zZ w b o ⟨25,a,x,c,d,u,t⟩)(E:a<m.jD.length)(q:x<m.jD.length)(G:c<m.jD.length)(p:d<m.jD.length):
 Calls prog 55 #[Pt M 0,Pt b o] w λe i=>e=.returned (.tuple #[])/\kP B C i M SB v (Hx.choose ⟨0,a,x,c,d,0,0⟩ (decide (m.jD.getD d 0<m.jD.getD x 0)) m)/\Below B w i:=by
 have s:Hid (∀(o:Obj)(f:Bool),Calls prog 99 #[Pt M 0,.agg #[Im a,Im x,Im c,Im d],.bool f] ((w.alloc o).drew) λe i=>e=.returned (.tuple #[])/\
  kP B C i M SB v (Hx.choose ⟨0,a,x,c,d,0,0⟩ f m)/\Below B ((w.alloc o).drew) i):=λo f=>ab3 ((g.alloc o).drewN 1) a x c d f E q G p
 have r:Hid (∀(o:Obj)(n:Nat),Below B w ((w.alloc o).drewN n)):=λo n=>below_drewN ((dK _ _).alloc (by have:=g.size;have:=g.cM;have:=g.bM;omega) o) n;have U:=g.slot x q;have T:=g.slot d p;have X:=g.jD;have y:=g.size;have z:=g.cS;have A:=g.cM;have D:=g.bM;have n1:¬SB=w.heap.size:=by omega
 have n3:¬SB=M:=λe=>g.ne e.symm;have n2:¬M=w.heap.size:=by omega
 have n4:¬b=w.heap.size:=by omega
 have R:SB<w.heap.size:=by omega
 have V:M<w.heap.size:=by omega
 have F:b<w.heap.size:=by omega
 obtain⟨H,I,J,K,L,N,O⟩:=l;simp only at H I J K L;clear g y z A D N O;generalize m.jD.getD x 0=xx at *;generalize m.jD.getD d 0=xd at *;generalize m.jD.length=h at *;have Y:(0:Int)<=(x:Int):=by omega
 have j2:(x:Int)<(h:Int):=by omega
 have Z:(0:Int)<=(d:Int):=by omega
 have j4:(d:Int)<(h:Int):=by omega
 go_enter func55,ntmps55;go_wp2_with fail;refine aiy 19 (by kernel_rfl) (by kernel_rfl) ?_;simp only[aC,aO,aG,aQ];repeat still_step
 refine wpStill_nil ?_;go_wp2_with fail;refine(s.out _ _).mono ?_;rintro e w1 ⟨rfl,k,j⟩;go_wp2;go_end0;exact⟨rfl,k,(r.out _ 1).trans j⟩
theorem avJ(g:kP B C w M SB v m)(b o:Nat)(a x c d:Nat)(u t:Int)(W:b<B)(l:zZ w b o ⟨26,a,x,c,d,u,t⟩)(E:a<m.jD.length)(q:x<m.jD.length)(G:c<m.jD.length)(p:d<m.jD.length):
 Calls prog 55 #[Pt M 0,Pt b o] w λe i=>e=.returned (.tuple #[])/\kP B C i M SB v (Hx.choose ⟨0,a,x,c,d,0,0⟩ (decide (m.jD.getD x 0<m.jD.getD d 0)) m)/\Below B w i:=by
 have s:Hid (∀(o:Obj)(f:Bool),Calls prog 99 #[Pt M 0,.agg #[Im a,Im x,Im c,Im d],.bool f] ((w.alloc o).drew) λe i=>e=.returned (.tuple #[])/\
  kP B C i M SB v (Hx.choose ⟨0,a,x,c,d,0,0⟩ f m)/\Below B ((w.alloc o).drew) i):=λo f=>ab3 ((g.alloc o).drewN 1) a x c d f E q G p
 have r:Hid (∀(o:Obj)(n:Nat),Below B w ((w.alloc o).drewN n)):=λo n=>below_drewN ((dK _ _).alloc (by have:=g.size;have:=g.cM;have:=g.bM;omega) o) n;have U:=g.slot x q;have T:=g.slot d p;have X:=g.jD;have y:=g.size;have z:=g.cS;have A:=g.cM;have D:=g.bM;have n1:¬SB=w.heap.size:=by omega
 have n3:¬SB=M:=λe=>g.ne e.symm;have n2:¬M=w.heap.size:=by omega
 have n4:¬b=w.heap.size:=by omega
 have R:SB<w.heap.size:=by omega
 have V:M<w.heap.size:=by omega
 have F:b<w.heap.size:=by omega
 obtain⟨H,I,J,K,L,N,O⟩:=l;simp only at H I J K L;clear g y z A D N O;generalize m.jD.getD x 0=xx at *;generalize m.jD.getD d 0=xd at *;generalize m.jD.length=h at *;have Y:(0:Int)<=(x:Int):=by omega
 have j2:(x:Int)<(h:Int):=by omega
 have Z:(0:Int)<=(d:Int):=by omega
 have j4:(d:Int)<(h:Int):=by omega
 go_enter func55,ntmps55;go_wp2_with fail;refine aiy 19 (by kernel_rfl) (by kernel_rfl) ?_;simp only[aC,aO,aG,aQ];repeat still_step
 refine wpStill_nil ?_;go_wp2_with fail;refine(s.out _ _).mono ?_;rintro e w1 ⟨rfl,k,j⟩;go_wp2;go_end0;exact⟨rfl,k,(r.out _ 1).trans j⟩
end
end
section
open Go.RowKit
open Hx (Rd Pk Vw St Mc jK)
section
variable {B C:Nat}{w:jk}{M SB:Nat}{v:Vw}{m:Mc}
theorem avL(f:kP B C w M SB v m)(b o:Nat)(q:Int)(a x c:Nat)(d F t:Int)(hb:b<B)(k:zZ w b o ⟨q,a,x,c,d,F,t⟩)(j:a<m.jD.length)(N:x<m.jD.length)(L:c<m.jD.length)
 (q1:(q==6)=false)(q2:(q==21)=false)(q3:(q==22)=false)(q4:(q==25)=false)(q5:(q==26)=false)(h:jK (Hx.outcome v q (m.jD.getD x 0) (m.jD.getD c 0))):
 Calls prog 55 #[Pt M 0,Pt b o] w λe D=>e=.returned (.tuple #[])/\kP B C D M SB v (m.put a (Hx.outcome v q (m.jD.getD x 0) (m.jD.getD c 0)))/\Below B w D:=by
 have u:Hid (∀o n,kP B C (((w.alloc o).drewN n).setCell (Ad SB a) (Im (Hx.outcome v q (m.jD.getD x 0) (m.jD.getD c 0)))) M SB v (m.put a (Hx.outcome v q (m.jD.getD x 0) (m.jD.getD c 0)))/\
  Below B w (((w.alloc o).drewN n).setCell (Ad SB a) (Im (Hx.outcome v q (m.jD.getD x 0) (m.jD.getD c 0))))):=λo n=>agr f j h o n
 have z:Hid (∀o n,Ci B ((w.alloc o).drewN n) M v/\wO ((w.alloc o).drewN n)):=λo n=>⟨((f.alloc o).drewN n).view,((f.alloc o).drewN n).LP⟩;have p:m.jD.getD x 0<=9223372036854775807:=(f.D6 x).2;have Z:=f.slot a j;have fa:=f.Dj a j;have cx:=f.slot x N;have cc:=f.slot c L;have hs:=f.jD;have G:=f.size;have H:=f.cS;have I:=f.cM;have J:=f.bM;have n1:¬SB=w.heap.size:=by omega
 have n3:¬SB=M:=λe=>f.ne e.symm;have n2:¬M=w.heap.size:=by omega
 have n4:¬b=w.heap.size:=by omega
 have Y:SB<w.heap.size:=by omega
 have hM:M<w.heap.size:=by omega
 have K:b<w.heap.size:=by omega
 obtain⟨O,R,T,U,V,W,X⟩:=k;simp only at O R T U V;clear f G H I J W X h;generalize m.jD.getD a 0=xa at *;generalize m.jD.getD x 0=s at *;generalize m.jD.getD c 0=r at *;generalize A:Hx.outcome v q s r=y at u⊢;have E:Hid (Hx.outcome v q s r=y):=A;clear A;generalize m.jD.length=g at *;have i1:(0:Int)<=(a:Int):=by omega
 have j1:(a:Int)<(g:Int):=by omega
 have i2:(0:Int)<=(x:Int):=by omega
 have j2:(x:Int)<(g:Int):=by omega
 have i3:(0:Int)<=(c:Int):=by omega
 have j3:(c:Int)<(g:Int):=by omega
 go_enter func55,ntmps55;go_wp2_with fail;refine nO 29 (by kernel_rfl) (by kernel_rfl) ?_;simp only[aC,aO,aG,aQ];repeat (go_big_quiet_step ((go_at_call 100;exact Calls.quiet_of (aqT B M q s r v _ (z.out _ _).1 (z.out _ _).2 p))))
 refine bF ?_;intro _ l;obtain⟨nq,i⟩:=l;subst i;rw[E.out];go_wp2;go_end0;exact⟨rfl,u.out _ _⟩
theorem avG(k:kP B C w M SB v m)(b o:Nat)(s:St)(u:b<B)(g:zZ w b o s)(z:s.TP m.jD.length):
 Calls prog 55 #[Pt M 0,Pt b o] w λe l=>e=.returned (.tuple #[])/\kP B C l M SB v (Hx.work v s m)/\Below B w l:=by
 obtain⟨q,a,x,c,d,r,t⟩:=s;obtain⟨L,⟨y,N⟩,z⟩:=z;simp only at L y N z;obtain⟨a,rfl⟩:=bI y;have f:a<m.jD.length:=by omega
 by_cases E:q=6
 .subst E;refine(avK k b o a x c d r t u g f L).mono ?_;rintro e l ⟨rfl,h,i⟩;exact⟨rfl,by simpa [Hx.work]using h,i⟩
 by_cases F:q=21
 .subst F;refine(avF k b o a x c d r t u g f).mono ?_;rintro e l ⟨rfl,h,i⟩;exact⟨rfl,by simpa [Hx.work]using h,i⟩
 obtain⟨⟨I,T⟩,A⟩:=(z.resolve_left E).resolve_left F;clear z;obtain⟨x,rfl⟩:=bI I;have j:x<m.jD.length:=by omega
 by_cases G:q=22
 .subst G;refine(avH k b o a x c d r t u g f j).mono ?_;rintro e l ⟨rfl,h,i⟩;exact⟨rfl,by simpa [Hx.work,Hx.Mc.get]using h,i⟩
 obtain⟨⟨H,R⟩,D⟩:=A.resolve_left G;clear A;obtain⟨c,rfl⟩:=bI H;have n:c<m.jD.length:=by omega
 by_cases J:q=25
 .subst J;obtain⟨p,O⟩:=D (jf rfl);obtain⟨d,rfl⟩:=bI p;refine(avI k b o a x c d r t u g f j n (by omega)).mono ?_;rintro e l ⟨rfl,h,i⟩;exact⟨rfl,by simpa [Hx.work,Hx.choose,Hx.Mc.get]using h,i⟩
 by_cases K:q=26
 .subst K;obtain⟨p,O⟩:=D (je rfl);obtain⟨d,rfl⟩:=bI p;refine(avJ k b o a x c d r t u g f j n (by omega)).mono ?_;rintro e l ⟨rfl,h,i⟩;exact⟨rfl,by simpa [Hx.work,Hx.choose,Hx.Mc.get]using h,i⟩
 refine(avL k b o q a x c d r t u g f j n (by simpa using E) (by simpa using F) (by simpa using G) (by simpa using J) (by simpa using K) (Hx.Wj k.view.yX _ _ _ (k.D6 x))).mono ?_;rintro e l ⟨rfl,h,i⟩;exact⟨rfl,by simpa [Hx.work,Hx.Mc.get,E,F,G,J,K]using h,i⟩
end
def tu:Int->List Rd->Bool
 |_,[]=>true
 |seen,r::rs=>if r.id<0\/8<=r.id\/Hx.xO seen r.id=true then false else tu (bits .or .i64 seen (wrap64 (2^r.id.toNat))) rs
def vJ(v:Vw):Bool:=decide (v.jU.length<=8)&&decide (v.kK.length<=16)&&decide (v.jW.length<=16)&&tu 0 v.jU
theorem Wh:∀(d:List Rd)(b:Int),tu b d=true->∀r∈d,0<=r.id/\r.id<8
 |[],_,_,r,c=>by cases c
 |q::d,b,h,r,c=>by
  unfold tu at h;split at h
  .cases h
  .rename_i e;rcases dh.1 c with rfl|c
   .omega
   .exact Wh d _ h r c
theorem aae{v:Vw}(h:vJ v=true):Good v:=by
 simp only[vJ,dD,decide_eq_true_eq]at h;exact⟨h.1.1.1,h.1.1.2,h.1.2,Wh _ _ h.2⟩
theorem anP(h g f:Option Addr)(c k b j d i:Nat)(w:jk)(s:8<c\/16<b\/16<d):
 Calls prog 50 #[.agg #[.slice h c k,.slice g b j,.slice f d i]] w λe o=>e=.returned (.bool false)/\Below w.heap.size w o:=by
 by_cases q:8<c
 .have l:decide ((8:Int)<(c:Int))=true:=by simp;omega
  go_enter func50,ntmps50;go_wp2;go_ret;exact⟨rfl,(dK _ _).alloc (aj _) _⟩
 .have l:decide ((8:Int)<(c:Int))=false:=by simp;omega
  by_cases r:16<b
  .have n:decide ((16:Int)<(b:Int))=true:=by simp;omega
   go_enter func50,ntmps50;go_wp2;go_ret;exact⟨rfl,(dK _ _).alloc (aj _) _⟩
  .have n:decide ((16:Int)<(b:Int))=false:=by simp;omega
   have p:decide ((16:Int)<(d:Int))=true:=by simp;omega
   go_enter func50,ntmps50;go_wp2;go_ret;exact⟨rfl,(dK _ _).alloc (aj _) _⟩
theorem anQ(J X W:Option Addr)(l cr E cf D Z:Nat)(rs:List Rd)(w:jk)(T:l=rs.length)(h1:l<=8)(h2:E<=16)(h3:D<=16)(A:Gs w.heap.size w J rs):
 Calls prog 50 #[.agg #[.slice J l cr,.slice X E cf,.slice W D Z]] w λe q=>e=.returned (.bool (tu 0 rs))/\Below w.heap.size w q:=by
 have d1:decide ((8:Int)<(l:Int))=false:=by simp;omega
 have d2:decide ((16:Int)<(E:Int))=false:=by simp;omega
 have d3:decide ((16:Int)<(D:Int))=false:=by simp;omega
 have H:=jA T;clear T;go_enter func50,ntmps50;go_wp2;go_loopw [3,25] (λsn i wr=>∃(k:Nat)(c:Int),k<=l/\i=Im k/\sn=Im c/\Hid (tu 0 rs=tu c (rs.drop k))/\Below w.heap.size w wr/\Hid (w.heap.size<wr.heap.size)) (λ_ i _=>l-(intOf i).toNat)
 case atStart=>exact⟨0,0,bD _,rfl,rfl,rfl,(dK _ _).alloc (aj _) _,by show _<_;simp⟩
 case round=>
  obtain⟨k,c,hk,rfl,rfl,t,h,I⟩:=hrel;by_cases ab:k<l
  .have z:k<rs.length:=by have:=H.out;omega
   have j:rs[k]? =some rs[k]:=by simp
   obtain⟨b,o,rfl,f,Y,o',e,K,L,N,O,R⟩:=A k _ j;obtain⟨rfl,rfl⟩:b=Y/\o+k * 5=o':=by simpa using e
   have x:Hid (rs.drop k=rs[k]::rs.drop (k+1)):=dA (by omega);generalize rs[k]=r at *;have w1:=(h.cell (p:=(Ad b (o+k * 5))) f).trans K;have w2:=(h.cell (p:=(Ad b (o+k * 5+1))) f).trans L;have w3:=(h.cell (p:=(Ad b (o+k * 5+2))) f).trans N;have w4:=(h.cell (p:=(Ad b (o+k * 5+3))) f).trans O;have w5:=(h.cell (p:=(Ad b (o+k * 5+4))) f).trans R;have u:=jA (λo=>h.alloc (by have:=I.out;omega) o);have i1:(0:Int)<=(k:Int):=by omega
   have j1:(k:Int)<(l:Int):=by omega
   clear A j e K L N O R h z;by_cases n:r.id<0
   .have F:decide (r.id<0)=true:=by simpa using n
    have g:Hid (tu 0 rs=false):=by
     show tu 0 rs=false;rw[t.out,x.out];unfold tu;rw[jh (jf n)]
    clear n;go_wp2;go_ret;exact⟨BF g.out.symm,u.out _⟩
   .have F:decide (r.id<0)=false:=by simpa using n
    by_cases s:8<=r.id
    .have G:decide (8<=r.id)=true:=by simpa using s
     have g:Hid (tu 0 rs=false):=by
      show tu 0 rs=false;rw[t.out,x.out];unfold tu;rw[jh (je (jf s))]
     clear n s;go_wp2;go_ret;exact⟨BF g.out.symm,u.out _⟩
    .have G:decide (8<=r.id)=false:=by simpa using s
     have U:0<=r.id:=by omega
     have V:r.id<8:=by omega
     cases d:Hx.xO c r.id with
     |true=>
      have g:Hid (tu 0 rs=false):=by
       show tu 0 rs=false;rw[t.out,x.out];unfold tu;rw[jh (je (je d))]
      have y:Hid (∀w,Calls prog 94 #[Im c,Im r.id] w λe q=>e=.returned (.bool true)/\q=w):=λw=>by rw[<-d];exact VK c r.id w U V
      clear n s d;go_wp2_with (go_at_call 94;refine(y.out _).mono ?_;rintro e q ⟨rfl,rfl⟩);go_ret;exact⟨BF g.out.symm,u.out _⟩
     |false=>
      have g:Hid (tu 0 rs=tu (bits .or .i64 c (wrap64 (2^r.id.toNat))) (rs.drop (k+1))):=by
       show tu 0 rs=_;rw[t.out,x.out];conv=>lhs;unfold tu
       rw[jg (by rw[d];simp;omega)]
      have y:Hid (∀w,Calls prog 94 #[Im c,Im r.id] w λe q=>e=.returned (.bool false)/\q=w):=λw=>by rw[<-d];exact VK c r.id w U V
      clear n s d;go_wp2_with (go_at_call 94;refine(y.out _).mono ?_;rintro e q ⟨rfl,rfl⟩);go_roundw
      case rel=>exact⟨k+1,_,by omega,by go_num,rfl,g,u.out _,by have:=I.out;show _<_;simp;omega⟩
      case measure=>simp[intOf];omega
  .have g:Hid (tu 0 rs=true):=by
    rw[t.out,List.drop_eq_nil_of_le (by have:=H.out;omega)];rfl
   clear A;go_wp2;go_ret;exact⟨BF g.out.symm,h⟩
theorem Gs.mono{B c:Nat}{w:jk}{a:Option Addr}{rs:List Rd}(h:Gs B w a rs)(g:B<=c):Gs c w a rs:=λi r f=>by
 obtain⟨b,o,e,j,d⟩:=h i r f;exact⟨b,o,e,by omega,d⟩
theorem anO{B:Nat}{w:jk}{j i g:Option Addr}{d c b:Nat}{v:Vw}(o n l:Nat)(k:uV B w j i g d c b v)(t:B<=w.heap.size):
 Calls prog 50 #[.agg #[.slice j d o,.slice i c n,.slice g b l]] w λe q=>e=.returned (.bool (vJ v))/\Below w.heap.size w q:=by
 have p:=k.KE;have r:=k.KD;have s:=k.KC;by_cases f:8<d\/16<c\/16<b
 .refine(anP j i g d o c n b l w f).mono ?_;rintro e q ⟨rfl,h⟩;refine⟨BF ?_,h⟩;unfold vJ;rw[<-p,<-r,<-s];rcases f with f|f|f
  .rw[dO (show¬d<=8 by omega)];rfl
  .rw[dO (show¬c<=16 by omega)];simp
  .rw[dO (show¬b<=16 by omega)];simp
 .refine(anQ j i g d o c n b l v.jU w p (by omega) (by omega) (by omega) (k.jU.mono t)).mono ?_;rintro e q ⟨rfl,h⟩;refine⟨BF ?_,h⟩;unfold vJ;rw[<-p,<-r,<-s,dR (show d<=8 by omega),dR (show c<=16 by omega),dR (show b<=16 by omega)]
  rfl
end
end Go.Proofs.YthllhabjfchgiaaGreatDoor
