import Derived.Scope
import Derived.ScopeJumps
import Derived.Test.YthllhabjfchgiaaGreatDoorHb03
import Derived.BigRegion
import Derived.StillTailTactics
set_option maxRecDepth 100000
set_option maxHeartbeats 8000000
set_option linter.unusedSimpArgs false
namespace Go.Proofs.YthllhabjfchgiaaGreatDoor
open _root_.Go.Proofs.Tryz
section
open Go
section
variable {P:Program}{ops:Array Oper}{md:Region.Mode}{S:jo->Prop}{Q:Exit->Act->jo->Prop}
def BK(n:Nat)(ds:List Nat):Array Bool:=ds.foldr (λi m=>m.setIfInBounds i true) (Array.replicate n false)
theorem Vp(n:Nat):∀ds:List Nat,(BK n ds).size=n
 |[]=>by simp[BK]
 |i::ds=>by
  show((BK n ds).setIfInBounds i true).size=n;rw[Array.size_setIfInBounds];exact Vp n ds
theorem ac7(n:Nat):∀(ds:List Nat)(j:Nat),j∉ds->(BK n ds).getD j false=false
 |[],j,_=>getD_replicate_false n j
 |i::ds,j,h=>by
  show((BK n ds).setIfInBounds i true).getD j false=false;rw[getD_set_ne false (λe=>h (by rw[e];exact aW))];exact ac7 n ds j (λe=>h (aI _ e))
theorem Vo(n:Nat):∀(ds:List Nat)(j:Nat),j∈ds->j<n->(BK n ds).getD j false=true
 |[],j,h,_=>jq h dU
 |i::ds,j,h,hj=>by
  show((BK n ds).setIfInBounds i true).getD j false=true;by_cases e:i=j
  .subst e;have:=Vp n ds;simp[this,hj]
  .rw[getD_set_ne false e];rcases dh.1 h with e2|e2
   .exact jq e2.symm e
   .exact Vo n ds j e2 hj
def Ud(md:Region.Mode)(ops:Array Oper)(ds:List Nat)(i:Nat):Bool:=
 match ops[i]?with
 |none=>false
 |some oi=>(List.range ops.size).all λj=>j==i||ds.contains j||match ops[j]?with
   |some oj=>oj.after.any (λe=>Region.binds md e&&e.on==i)||oi.apart ops oj
   |none=>true
theorem ajF{ds:List Nat}{i:Nat}{oi:Oper}(hi:ops[i]? =some oi)(h:Ud md ops ds i=true)(j:Nat)(oj:Oper)(hj:ops[j]? =some oj)(hne:j≠i)(hun:j∉ds)(hno:∀e∈oj.after,Region.binds md e=true->e.on≠i):oi.apart ops oj=true:=by
 simp only[Ud,hi,List.all_eq_true,List.mem_range]at h;have h1:=h j (Array.getElem?_eq_some_iff.1 hj).1;have h2:ds.contains j=false:=by simpa using hun
 simp only[hj,iW,beq_iff_eq,hne,false_or,h2,aH]at h1;rcases h1 with h1|h1
 .obtain⟨k,hk,hx⟩:=Array.any_eq_true.1 h1;simp only[dD,beq_iff_eq]at hx;exact jq hx.2 (hno _ (Array.getElem_mem hk) hx.1)
 .exact h1
def af4(md:Region.Mode)(ops:Array Oper)(ds:List Nat)(i:Nat):Bool:=
 !ds.contains i&&Ud md ops ds i&&((ops[i]?).map (·.after.all λe=>!Region.binds md e||(ds.contains e.on&&decide (e.on<ops.size)))).getD false
def Rx(md:Region.Mode)(ops:Array Oper):List Nat->List Nat->Bool
 |[],_=>true
 |i::is,ds=>af4 md ops ds i&&Rx md ops is (i::ds)
def yM(P:Program)(ops:Array Oper)(S:jo->Prop):List Oper->(Act->Prop)->Act->Prop
 |[],K,a=>K a
 |o::os,K,a=>∃v,YieldsIf P ops S o v a/\yM P ops S os K (a.put o.dst v)
theorem yM.nil{K:Act->Prop}{a:Act}(h:K a):yM P ops S [] K a:=h
theorem yM.cons{o:Oper}{os:List Oper}{K:Act->Prop}{a:Act}{v:jr}(h:Region.wanted o (yielded ops a.tmps)=true)(hy:∀w,S w->(execOp a.eval o).run P w=.ok (.value v) w)(hr:yM P ops S os K (a.put o.dst v)):yM P ops S (o::os) K a:=⟨v,ji ⟨h,hy⟩,hr⟩
theorem agA{w:jo}{f:Nat}(hs:Region.noSelect ops=true)(hQ:∀c a d v w,Q (.panic c) (Act.put a d v) w->Q (.panic c) a w)(hS:S w):
 ∀(is:List Nat)(os:List Oper)(ds:List Nat)(a:Act),is.map (λi=>ops[i]?)=os.map some->Rx md ops is ds=true->yM P ops S os (λa'=>wpAnyH P md ops Q S f (BK ops.size (is.reverse++ds)) a' w) a->wpAnyH P md ops Q S (is.length+f) (BK ops.size ds) a w
 |[],[],ds,a,_,_,h=>by
  rw[bg,gW];exact h
 |[],_::_,_,_,he,_,_=>by cases he
 |_::_,[],_,_,he,_,_=>by cases he
 |i::is,o::os,ds,a,he,hB,h=>by
  simp only[Rx,af4,dD,Bool.not_eq_true',List.contains_eq_mem,decide_eq_false_iff_not]at hB;obtain⟨⟨⟨h1,h2⟩,h3⟩,h4⟩:=hB;obtain⟨v,hy,hr⟩:=h;simp only[dL,iD]at he;obtain⟨ho,he⟩:=he;rw[ho]at h3;simp only[iJ,Option.getD_some,Array.all_eq_true_iff_forall_mem]at h3;have hi:i<ops.size:=(Array.getElem?_eq_some_iff.1 ho).1;rw[aF,show is.length+1+f=(is.length+f)+1 by omega];refine wpAnyH_first ho (Region.noSelect_spec hs) (λc a w=>hQ c a _ _ w) _ _ a w (λj oj hj hne hun hno=>ajF ho h2 j oj hj hne (λhm=>?_) hno) ?_ hy hS ?_
  .have k1:=Vo ops.size ds j hm (Array.getElem?_eq_some_iff.1 hj).1;rw[getD_both hun]at k1;cases k1
  .refine mem_ready.2 ⟨getD_in (by rw[Vp];exact hi) (ac7 _ ds i h1),o,ho,λe he hb=>?_⟩;have:=h3 e he;rw[hb]at this;simp only[je,ig,dD,decide_eq_true_eq]at this;exact Vo _ ds _ (by simpa using this.1) this.2
  .have key:wpAnyH P md ops Q S (is.length+f) (BK ops.size (i::ds)) (a.put o.dst v) w:=agA hs hQ hS is os (i::ds) (a.put o.dst v) he h4 (by
    rw[fJ,bY]at hr;exact hr)
   exact key
theorem YL{id f:Nat}{a:Act}{w:jo}{l:List Oper}(S:jo->Prop)(is:List Nat)(m:Array Bool)(os:List Oper->List Oper)(hm:P.follows .mixedOrders=true)(hs:Region.noSelect l.toArray=true)(hf:is.length+f=l.toArray.size)(ho:is.map (λi=>l.toArray[i]?)=(os l).map some)(hB:Rx .any l.toArray is []=true)(hmk:BK l.toArray.size (is.reverse++[])=m)(hS:S w.drew)
 (h:S w.drew->yM P l.toArray S (os l) (λa'=>wpAnyH P .any l.toArray (NoPanic Q) S f m a' w.drew) a):(Code.region id l.toArray true).wp P Q a w:=by
 refine wp_region_noPanic (wp_region_held_drew (S:=S) hm hS λhh=>?_);have:=agA (P:=P) (md:=.any) (ops:=l.toArray) (Q:=NoPanic Q) (f:=f) hs (λc a d v w h=>h) hS is (os l) [] a ho hB (by rw[hmk];exact h hh);rw[hf]at this;exact this
theorem lS{fuel:Nat}{listed:Array Bool}{a:Act}{w:jo}{i:Nat}{o:Oper}{rs:List Nat}{l:List Oper}(ho:l[i]? =some o)
 (h:∀K':Act->jo->Prop,Shut (∀a w,S w->(S w->wpAnyH P md l.toArray Q S fuel (listed.setIfInBounds i true) a w)->K' a w)->if Region.wanted o (yielded l.toArray a.tmps)=true then Oper.wp P o a w K' Q else K' (a.put o.dst undef) w)
 (hs:AllReadyH P md l.toArray Q S fuel listed a w rs):AllReadyH P md l.toArray Q S fuel listed a w (i::rs):=
 AllReadyH.cons (o:=o) (by simpa using ho) h hs
end
section
def Zf(J:Nat->Act->jo->Prop)(Q:Exit->Act->jo->Prop):Exit->Act->jo->Prop
 | .goto l,a,w=>J l a w
 |e,a,w=>Q e a w
variable {P:Program}{a:Act}{w:jo}{Q:Exit->Act->jo->Prop}
theorem ar2{c:Code}(rest:Nat->Code)(J:Nat->Act->jo->Prop)(μ:Nat->Act->jo->Nat)(hf:∀l a w,J l a w->findLabel c l=some (rest l))
 (first:c.wp P (Zf J Q) a w)
 (pass:∀l a w,J l a w->(rest l).wp P (Zf (λl' a' w'=>J l' a' w'/\μ l' a' w'<μ l a w) Q) a w):(Code.scope c).wp P Q a w:=by
 intro b k cs;have hg:∀l a w,J l a w->gotoIn l (.inScope c::k)=some (.code (rest l)::.inScope c::k):=λl a w h=>by simp[gotoIn,hf l a w h]
 have key:∀n l a w,μ l a w=n->J l a w->∃e a' w',Q e a' w'/\Arrives P (lone (b.at a (.code (rest l)::.inScope c::k)) cs w) b k cs e a' w':=by
  intro n;induction n using Nat.strongRecOn with
  |_ n ih=>
   intro l a w hn hJ;obtain⟨e,a1,w1,hq,harr⟩:=pass l a w hJ b (.inScope c::k) cs;cases e with
   |normal=>exact⟨.normal,a1,w1,hq,Steps.trans harr (.one step_inScope)⟩
   |exit id=>exact⟨.exit id,a1,w1,hq,λk' hk=>harr k' (by simp[exitTo,hk])⟩
   |goto l'=>
    obtain⟨hJ',hlt⟩:=hq;obtain⟨e2,a2,w2,hq2,Uo⟩:=ih _ (by omega) l' a1 w1 rfl hJ';exact⟨e2,a2,w2,hq2,.of_steps (harr _ (hg l' a1 w1 hJ')) Uo⟩
   |ret=>exact⟨_,a1,w1,hq,harr⟩
   |panic ch=>exact⟨_,a1,w1,hq,harr⟩
   |outgrown=>exact⟨_,a1,w1,hq,harr⟩
 obtain⟨e,a1,w1,hq,harr⟩:=first b (.inScope c::k) cs
 cases e with
 |normal=>exact⟨.normal,a1,w1,hq,.head step_scope (Steps.trans harr (.one step_inScope))⟩
 |exit id=>exact⟨.exit id,a1,w1,hq,λk' hk=>.head step_scope (harr k' (by simp[exitTo,hk]))⟩
 |goto l'=>
  obtain⟨e2,a2,w2,hq2,Uo⟩:=key _ l' a1 w1 rfl hq;exact⟨e2,a2,w2,hq2,.of_steps (.head step_scope (harr _ (hg l' a1 w1 hq))) Uo⟩
 |ret=>exact⟨_,a1,w1,hq,.of_steps (.one step_scope) harr⟩
 |panic ch=>exact⟨_,a1,w1,hq,.of_steps (.one step_scope) harr⟩
 |outgrown=>exact⟨_,a1,w1,hq,.of_steps (.one step_scope) harr⟩
end
end
section
open Go.RowKit
open Hx (Rd Pk Vw St Mc jO)
section
variable {B C:Nat}{w:jo}{M SB:Nat}{v:Vw}{m:Mc}
theorem aes(hm:kM B C w M SB v m)(i j:Int)(hj:j<=9223372036854775807)(hl:m.jP.length<=256):
 Calls prog 54 #[Pt M 0,Im i,Im j] w λe w'=>e=.returned (.bool (Hx.push v i j m).isSome)/\(∀m',Hx.push v i j m=some m'->kM B C w' M SB v m')/\Below B w w':=by
 cases hr:v.sG i with
 |none=>
  refine(aev hm i j hj (ji hr)).mono ?_;rintro e w' ⟨rfl,rfl⟩;have e1:Hx.push v i j m=some m:=by simp[Hx.push,hr]
  rw[e1];exact⟨rfl,λm' h=>by cases h;exact hm,dK _ _⟩
 |some r=>
  cases hp:v.uH j with
  |none=>
   refine(aev hm i j hj (jh hp)).mono ?_;rintro e w' ⟨rfl,rfl⟩;have e1:Hx.push v i j m=some m:=by simp[Hx.push,hr,hp]
   rw[e1];exact⟨rfl,λm' h=>by cases h;exact hm,dK _ _⟩
  |some p=>
   by_cases hf:m.jP.length=256
   .refine(aoQ hm i j r p hj hr hp hf).mono ?_;rintro e w' ⟨rfl,rfl⟩;have e1:Hx.push v i j m=none:=by simp[Hx.push,hr,hp,hf]
    rw[e1];exact⟨rfl,λm' h=>(by cases h),dK _ _⟩
   .refine(aoR hm i j r p hj hr hp (by omega)).mono ?_;rintro e w' ⟨rfl,h1,h2⟩;have e1:Hx.push v i j m=some {m with jP:=m.jP++[(r.id,p.seq)]}:=by simp[Hx.push,hr,hp,hf]
    rw[e1];exact⟨rfl,λm' h=>(by cases h;exact h1),h2⟩
def tZ(status:Int)(va:jr)(jG:List Int):jr:=
 .agg #[.int .u8 status,va,Im (jG.getD 0 0),Im (jG.getD 1 0),Im (jG.getD 2 0),Im (jG.getD 3 0),Im (jG.getD 4 0),Im (jG.getD 5 0),Im (jG.getD 6 0),Im (jG.getD 7 0)]
theorem aqe(w:jo)(n:Nat)(x:Addr)(u:jr):(w.drewN n).setCell x u=(w.setCell x u).drewN n:=rfl
attribute [local go_sem] aqe
theorem run_arrayAt(P:Program)(t n:Nat)(e:jv)(h:P.underlying t=some (.array n e))(a:Option Addr)(len cap:Nat)(hl:n<=len)(w:jo):
 (Instr.arrayAt t (.slice a len cap)).run P w=.ok (.pointer a) w:=by
 have hl':¬len<n:=by omega
 simp[Instr.arrayAt,go_sem,run_underlying h,hl']
theorem ai7(hm:kM B C w M SB v m)(h8:8<=m.jE.length):
 Calls prog 51 #[Pt M 0] w λe w'=>∃va,e=.returned (tZ 0 va m.jE)/\w'.ownsRow C 76 2 va m.jP.length (oK m.jP)/\Below B w w':=by
 obtain⟨va,hva,hown⟩:=hm.jP;have h0:=hm.size;have h1:=hm.cS;have h2:=hm.cM;have h3:=hm.bM;have HO:Hid (∀(o:Obj)(n:Nat),((w.alloc o).drewN n).ownsRow C 76 2 va m.jP.length (oK m.jP)/\Below B w ((w.alloc o).drewN n)):=λo n=>
  ⟨(hown.alloc o).kept (w':=(w.alloc o).drewN n) (row:=none) ⟨rfl,rfl,rfl,aj _,λ_ _ _=>rfl⟩ (by cases va.ownBlock<;>simp),below_drewN ((dK _ _).alloc (by omega) o) n⟩
 obtain⟨aa,cap,hval⟩:∃aa cap,va=.slice aa m.jP.length cap:=by
  obtain⟨h1,h2⟩:=hown;rcases h2 with⟨h3,h4⟩|⟨g,cap,cur,h3,h4⟩
  .exact⟨none,0,by rw[h3,h4]⟩
  .exact⟨_,_,h3⟩
 subst hval;have hs:=hm.jE;have c0:=hm.slot 0 (by omega);have c1:=hm.slot 1 (by omega);have c2:=hm.slot 2 (by omega);have c3:=hm.slot 3 (by omega);have c4:=hm.slot 4 (by omega);have c5:=hm.slot 5 (by omega);have c6:=hm.slot 6 (by omega);have c7:=hm.slot 7 (by omega);have n1:¬SB=w.heap.size:=by omega
 have n2:¬M=w.heap.size:=by omega
 have FW:SB<w.heap.size:=by omega
 have hM:M<w.heap.size:=by omega
 have h8':(8:Int)<=(m.jE.length:Int):=by omega
 unfold tZ;clear hm h0 h1 h2 h3 hown;generalize oK m.jP=cells at *;generalize m.jP.length=na at *;generalize m.jE.getD 0 0=x0 at *;generalize m.jE.getD 1 0=x1 at *;generalize m.jE.getD 2 0=x2 at *;generalize m.jE.getD 3 0=x3 at *;generalize m.jE.getD 4 0=x4 at *;generalize m.jE.getD 5 0=x5 at *;generalize m.jE.getD 6 0=x6 at *;generalize m.jE.getD 7 0=x7 at *;generalize m.jE.length=len at *;have ka:=λ(w:jo)=>run_arrayAt prog 26 8 3 Tryz.underlying26 (some (Ad SB 0)) len len (by omega) w;go_enter func51,ntmps51;go_wp2_with fail;refine nJ 11 (by kernel_rfl) (by kernel_rfl) ?_;simp only[aC,aO,aG,aQ];repeat (go_big_quiet_step (fail))
 refine bF ?_;intro _ hw';obtain⟨n3,hw''⟩:=hw';subst hw'';go_wp2;exact cu (v:=.agg #[.int .u8 0,.slice aa na cap,Im x0,Im x1,Im x2,Im x3,Im x4,Im x5,Im x6,Im x7]) (by simp[results,Tryz.results51,go_sem]) rfl ⟨_,rfl,HO.out _ _⟩
end
section
variable {B C:Nat}{w:jo}{M SB:Nat}{v:Vw}{m:Mc}
theorem ahW(hm:kM B C w M SB v m)(b o:Nat)(q l x:Int)(c:Nat)(d:Int)(dp:Nat)(t:Int)(hst:zu w b o ⟨q,l,x,c,d,dp,t⟩)(hc:c<m.jE.length)(hd:dp<8):
 Calls prog 52 #[Pt M 0,Pt b o] w λe w'=>e=.returned (.tuple #[])/\kM B C w' M SB v (Hx.rG v ⟨q,l,x,c,d,dp,t⟩ m)/\Below B w w':=by
 have HP:Hid (∀n,kM B C ((w.drewN n).setCell (Ad M (4+dp)) (.int .u64 (Hx.pU (bits .and .i64 (m.jE.getD c 0) (v.all l))))) M SB v (Hx.rG v ⟨q,l,x,c,d,dp,t⟩ m)/\
  Below B w ((w.drewN n).setCell (Ad M (4+dp)) (.int .u64 (Hx.pU (bits .and .i64 (m.jE.getD c 0) (v.all l)))))):=λn=>by
  refine⟨?_,(below_drewN (dK _ _) n).setCell (p:=(Ad M (4+dp))) hm.bM _⟩;have:=(hm.drewN n).lU hd (Hx.EU (bits .and .i64 (m.jE.getD c 0) (v.all l)));simpa [Hx.rG,Hx.Mc.get]using this
 have HV:=jB (λn=>(hm.drewN n).view);have hs:=hm.jE;have cc:=hm.slot c hc;have cl:=hm.left dp hd;have fl:=hm.Jw dp hd;obtain⟨s0,s1,s2,s3,s4,s5,s6⟩:=hst;simp only at s0 s1 s2 s3 s4 s5;clear hm s6 s4 s2 s0;generalize Hx.rG v ⟨q,l,x,c,d,dp,t⟩ m=m' at HP⊢;generalize m.jE.getD c 0=xc at *;generalize m.left.getD dp 0=xl at *;generalize hy:Hx.pU (bits .and .i64 xc (v.all l))=y at HP;have HY:Hid (IntKind.u64.wrap (bits .and .i64 xc (v.all l))=y):=hy;clear hy;generalize m.jE.length=len at *;have i3:(0:Int)<=(c:Int):=by omega
 have j3:(c:Int)<(len:Int):=by omega
 have i4:(0:Int)<=(dp:Int):=by omega
 have j4:(dp:Int)<8:=by omega
 go_enter func52,ntmps52;go_wp2_with fail;go_quiet (fail);go_wp2_with fail;refine BR 14 (by kernel_rfl) (by kernel_rfl) ?_;simp only[aC,aO,aG,aQ];repeat (go_big_quiet_step ((go_at_call 95;exact dN (Zo B M l v _ (HV.out _)))))
 refine bF ?_;intro _ hw';obtain⟨n2,hw''⟩:=hw';subst hw'';rw[HY.out];go_wp2;go_end0;exact⟨rfl,HP.out _⟩
theorem arv(hm:kM B C w M SB v m)(b o n cap:Nat)(k:Nat)(q l x c d:Int)(dp:Nat)(t:Int)(hk:k<n)(hst:zu w b (o+k * 7) ⟨q,l,x,c,d,dp,t⟩)(hd:dp<8)(hz:m.left.getD dp 0=0):
 Calls prog 53 #[Pt M 0,.slice (some (Ad b o)) n cap,Im k] w λe w'=>e=.returned (Im t)/\kM B C w' M SB v m/\Below B w w':=by
 have HP:Hid (∀n,kM B C (w.drewN n) M SB v m/\Below B w (w.drewN n)):=λn=>⟨hm.drewN n,below_drewN (dK _ _) n⟩;have cl:=hm.left dp hd;rw[hz]at cl;obtain⟨s0,s1,s2,s3,s4,s5,s6⟩:=hst;simp only at s0 s1 s2 s3 s4 s5 s6;clear hm s4 s2 s0 s3 s1 hz;have i4:(0:Int)<=(dp:Int):=by omega
 have j4:(dp:Int)<8:=by omega
 have i5:(0:Int)<=(k:Int):=by omega
 have j5:(k:Int)<(n:Int):=by omega
 go_enter func53,ntmps53;go_wp2_with fail;go_quiet (fail);go_wp2_with fail;go_ret;exact⟨rfl,HP.out _⟩
theorem aru(hm:kM B C w M SB v m)(b o n cap:Nat)(k:Nat)(q l:Int)(x:Nat)(c d:Int)(dp:Nat)(t:Int)(hb:b<B)(hk:k<n)(hn:n<=1000000)(hst:zu w b (o+k * 7) ⟨q,l,x,c,d,dp,t⟩)(hx:x<m.jE.length)(hd:dp<8)(hz:¬m.left.getD dp 0=0):
 Calls prog 53 #[Pt M 0,.slice (some (Ad b o)) n cap,Im k] w λe w'=>e=.returned (Im (k+1))/\
  kM B C w' M SB v ((m.put x (Hx.tz (m.left.getD dp 0))).lU dp (bits .and .u64 (m.left.getD dp 0) (IntKind.u64.wrap (m.left.getD dp 0-1))))/\Below B w w':=by
 have htz:=Hx.agn _ (hm.H7 dp).1 (hm.H7 dp).2
 have HP:Hid (∀n1 n2,kM B C ((((w.drewN n1).setCell (Ad SB x) (Im (Hx.tz (m.left.getD dp 0)))).drewN n2).setCell (Ad M (4+dp)) (.int .u64 (bits .and .u64 (m.left.getD dp 0) (IntKind.u64.wrap (m.left.getD dp 0-1))))) M SB v
       ((m.put x (Hx.tz (m.left.getD dp 0))).lU dp (bits .and .u64 (m.left.getD dp 0) (IntKind.u64.wrap (m.left.getD dp 0-1))))/\
  Below B w ((((w.drewN n1).setCell (Ad SB x) (Im (Hx.tz (m.left.getD dp 0)))).drewN n2).setCell (Ad M (4+dp)) (.int .u64 (bits .and .u64 (m.left.getD dp 0) (IntKind.u64.wrap (m.left.getD dp 0-1)))))):=λn1 n2=>by
  refine⟨?_,(below_drewN ((below_drewN (dK _ _) n1).setCell (p:=(Ad SB x)) hm.bS _) n2).setCell (p:=(Ad M (4+dp))) hm.bM _⟩;refine(((hm.drewN n1).put hx ?_).drewN n2).lU hd ?_
  .exact⟨by omega,by omega⟩
  .exact⟨bits_lo_u64 _ _ _,by have:=bits_hi_u64 .and (m.left.getD dp 0) (IntKind.u64.wrap (m.left.getD dp 0-1));omega⟩
 have HT:=jB (λn=>(hm.drewN n).J4);have hs:=hm.jE;have cx:=hm.slot x hx;have fx:=hm.BP x hx;have cl:=hm.left dp hd;have fl:=hm.Jw dp hd;have ne1:¬SB=M:=λe=>hm.ne e.symm;have ne2:¬b=SB:=by have:=hm.bS;omega
 have ne3:¬SB=b:=λe=>ne2 e.symm;have il:=hm.H7 dp;obtain⟨s0,s1,s2,s3,s4,s5,s6⟩:=hst;simp only at s0 s1 s2 s3 s4 s5 s6;clear hm s4 s0 s3 s1 s6 htz;generalize ((m.put x (Hx.tz (m.left.getD dp 0))).lU dp (bits .and .u64 (m.left.getD dp 0) (IntKind.u64.wrap (m.left.getD dp 0-1))))=m' at HP⊢;generalize m.left.getD dp 0=xl at *;generalize m.jE.getD x 0=xx at *;obtain⟨il0,il1⟩:=il;have hz':(xl==0)=false:=by simpa using hz
 have HL:=jB (jg il0 il1);clear hz il1;generalize m.jE.length=len at *;have i3:(0:Int)<=(x:Int):=by omega
 have j3:(x:Int)<(len:Int):=by omega
 have i4:(0:Int)<=(dp:Int):=by omega
 have j4:(dp:Int)<8:=by omega
 have i5:(0:Int)<=(k:Int):=by omega
 have j5:(k:Int)<(n:Int):=by omega
 go_enter func53,ntmps53;go_wp2_with fail;go_quiet (fail);go_wp2_with fail;refine BR 12 (by kernel_rfl) (by kernel_rfl) ?_;simp only[aC,aO,aG,aQ];repeat (go_big_quiet_step ((go_at_call 96;exact dN (agm xl HL.out.1 HL.out.2 _ (HT.out _)))))
 refine bF ?_;intro _ hw';obtain⟨n2,hw''⟩:=hw';subst hw'';go_wp2_with fail;refine nJ 12 (by kernel_rfl) (by kernel_rfl) ?_;simp only[aC,aO,aG,aQ];repeat (go_big_quiet_step (fail))
 refine bF ?_;intro _ hw';obtain⟨n3,hw''⟩:=hw';subst hw'';go_wp2;go_ret;exact⟨rfl,HP.out _ _⟩
theorem W9(hm:kM B C w M SB v m)(b o n cap:Nat)(k:Nat)(s:St)(hb:b<B)(hk:k<n)(hn:n<=1000000)(hst:zu w b (o+k * 7) s)(hx:St.slot m.jE.length s.b)(hd:0<=s.depth/\s.depth<8):
 Calls prog 53 #[Pt M 0,.slice (some (Ad b o)) n cap,Im k] w λe w'=>e=.returned (Im (Hx.kR s k m).2)/\kM B C w' M SB v (Hx.kR s k m).1/\Below B w w':=by
 obtain⟨q,a,x,c,d,dp,t⟩:=s;obtain⟨hx0,hx⟩:=hx;simp only at hx0 hx hd;obtain⟨x,rfl⟩:=bI hx0;obtain⟨dp,rfl⟩:=bI hd.1;by_cases hz:m.left.getD dp 0=0
 .refine(arv hm b o n cap k q a x c d dp t hk hst (by omega) hz).mono ?_;rintro e w' ⟨rfl,h2,h3⟩;have e1:Hx.kR ⟨q,a,x,c,d,dp,t⟩ k m=(m,t):=by
   unfold Hx.kR;rw[jl];simpa [Hx.Mc.mV]using hz
  rw[e1];exact⟨rfl,h2,h3⟩
 .refine(aru hm b o n cap k q a x c d dp t hb hk hn hst (by omega) (by omega) hz).mono ?_;rintro e w' ⟨rfl,h2,h3⟩;have e1:Hx.kR ⟨q,a,x,c,d,dp,t⟩ k m=((m.put x (Hx.tz (m.left.getD dp 0))).lU dp (bits .and .u64 (m.left.getD dp 0) (IntKind.u64.wrap (m.left.getD dp 0-1))),(k:Int)+1):=by
   unfold Hx.kR;rw[jk]
   .simp[Hx.Mc.mV]
   .simpa [Hx.Mc.mV]using hz
  rw[e1];exact⟨rfl,h2,h3⟩
theorem ao6(hm:kM B C w M SB v m){a b:Nat}{x y:Int}(ha:a<m.jE.length)(hb:b<m.jE.length)(hx:jO x)(hy:jO y)(o:Obj)(n:Nat):
 kM B C ((((w.alloc o).drewN n).setCell (Ad SB a) (Im x)).setCell (Ad SB b) (Im y)) M SB v ((m.put a x).put b y)/\
 Below B w ((((w.alloc o).drewN n).setCell (Ad SB a) (Im x)).setCell (Ad SB b) (Im y)):=by
 refine⟨(((hm.alloc o).drewN n).put ha hx).put (by simpa [Hx.Mc.put]using hb) hy,?_⟩;have:=hm.bS;have h0:=hm.size;have h1:=hm.cS;exact((below_drewN ((dK _ _).alloc (by omega) o) n).setCell (p:=(Ad SB a)) this _).setCell (p:=(Ad SB b)) this _
theorem aiU(hm:kM B C w M SB v m)(a b c d:Nat)(better:Bool)(ha:a<m.jE.length)(hb:b<m.jE.length)(hc:c<m.jE.length)(hd:d<m.jE.length)
 (Px:better=true\/m.jE.getD a 0= -1):
 Calls prog 99 #[Pt M 0,.agg #[Im a,Im b,Im c,Im d],.bool better] w λe w'=>e=.returned (.tuple #[])/\kM B C w' M SB v ((m.put a (m.jE.getD c 0)).put b (m.jE.getD d 0))/\Below B w w':=by
 have HP:Hid (∀o n,kM B C ((((w.alloc o).drewN n).setCell (Ad SB a) (Im (m.jE.getD c 0))).setCell (Ad SB b) (Im (m.jE.getD d 0))) M SB v ((m.put a (m.jE.getD c 0)).put b (m.jE.getD d 0))/\
  Below B w ((((w.alloc o).drewN n).setCell (Ad SB a) (Im (m.jE.getD c 0))).setCell (Ad SB b) (Im (m.jE.getD d 0)))):=λo n=>ao6 hm ha hb (hm.Df c) (hm.Df d) o n
 have hs:=hm.jE;have ca:=hm.slot a ha;have cb:=hm.slot b hb;have cc:=hm.slot c hc;have cd:=hm.slot d hd;have fa:=hm.BP a ha;have fb:=hm.BP b hb;have h0:=hm.size;have h1:=hm.cS;have h2:=hm.cM;have n1:¬SB=w.heap.size:=by omega
 have n3:¬SB=M:=λe=>hm.ne e.symm;have n2:¬M=w.heap.size:=by omega
 have FW:SB<w.heap.size:=by omega
 have hM:M<w.heap.size:=by omega
 generalize hm1:(m.put a (m.jE.getD c 0)).put b (m.jE.getD d 0)=m' at HP⊢;clear hm1 hm h0 h1 h2;generalize m.jE.getD a 0=xa at *;generalize m.jE.getD b 0=xb at *;generalize m.jE.getD c 0=xc at *;generalize m.jE.getD d 0=xd at *;generalize m.jE.length=len at *;have i1:(0:Int)<=(a:Int):=by omega
 have i2:(0:Int)<=(b:Int):=by omega
 have i3:(0:Int)<=(c:Int):=by omega
 have i4:(0:Int)<=(d:Int):=by omega
 have j1:(a:Int)<(len:Int):=by omega
 have j2:(b:Int)<(len:Int):=by omega
 have j3:(c:Int)<(len:Int):=by omega
 have j4:(d:Int)<(len:Int):=by omega
 have ajX:better=true\/better=false/\xa= -1:=by
  cases better
  .exact jh ⟨rfl,Px.resolve_left (by simp)⟩
  .exact ji rfl
 clear Px;rcases ajX with rfl|⟨rfl,rfl⟩;all_goals
  by_cases hab:a=b
  .subst hab;go_enter func99,ntmps99;go_wp2_with fail;go_quiet (fail);go_wp2_with fail;go_quiet (fail);go_wp2_with fail;go_region_held3 (λw'=>w'.cell? (Ad M 3)=some (.slice (some (Ad SB 0)) len len)/\w'.cell? (Ad w.heap.size 0)=some (Im a)/\w'.cell? (Ad w.heap.size 1)=some (Im a)) (go_keep) (fail);go_wp2;go_end0;exact⟨rfl,HP.out _ _⟩
  .have hba:¬b=a:=λh=>hab h.symm;go_enter func99,ntmps99;go_wp2_with fail;go_quiet (fail);go_wp2_with fail;go_quiet (fail);go_wp2_with fail;go_region_held3 (λw'=>w'.cell? (Ad M 3)=some (.slice (some (Ad SB 0)) len len)/\w'.cell? (Ad w.heap.size 0)=some (Im a)/\w'.cell? (Ad w.heap.size 1)=some (Im b)) (go_keep) (fail);go_wp2;go_end0;exact⟨rfl,HP.out _ _⟩
theorem aiS(hm:kM B C w M SB v m)(a b c d:Nat)(ha:a<m.jE.length)(hc:c<m.jE.length)(hd:d<m.jE.length)
 (Px:¬m.jE.getD a 0= -1):
 Calls prog 99 #[Pt M 0,.agg #[Im a,Im b,Im c,Im d],.bool false] w λe w'=>e=.returned (.tuple #[])/\kM B C w' M SB v m/\Below B w w':=by
 have h0:=hm.size;have h1:=hm.cS;have h2:=hm.cM;have h3:=hm.bM;have HP:Hid (∀o n,kM B C ((w.alloc o).drewN n) M SB v m/\Below B w ((w.alloc o).drewN n)):=λo n=>⟨(hm.alloc o).drewN n,below_drewN ((dK _ _).alloc (by omega) o) n⟩;have hs:=hm.jE;have ca:=hm.slot a ha;have cc:=hm.slot c hc;have cd:=hm.slot d hd;have n1:¬SB=w.heap.size:=by omega
 have n2:¬M=w.heap.size:=by omega
 have FW:SB<w.heap.size:=by omega
 have hM:M<w.heap.size:=by omega
 clear hm h0 h1 h2 h3;generalize m.jE.getD a 0=xa at *;generalize m.jE.getD c 0=xc at *;generalize m.jE.getD d 0=xd at *;generalize m.jE.length=len at *;have i1:(0:Int)<=(a:Int):=by omega
 have i3:(0:Int)<=(c:Int):=by omega
 have i4:(0:Int)<=(d:Int):=by omega
 have j1:(a:Int)<(len:Int):=by omega
 have j3:(c:Int)<(len:Int):=by omega
 have j4:(d:Int)<(len:Int):=by omega
 have hx:(xa== -1)=false:=by simpa using Px
 go_enter func99,ntmps99;go_wp2_with fail;go_quiet (fail);go_wp2_with fail;go_quiet (fail);go_wp2;go_end0;exact⟨rfl,by rw[World.drewN_drewN];exact HP.out _ _⟩
theorem aak(hm:kM B C w M SB v m)(a b c d:Nat)(better:Bool)(ha:a<m.jE.length)(hb:b<m.jE.length)(hc:c<m.jE.length)(hd:d<m.jE.length):
 Calls prog 99 #[Pt M 0,.agg #[Im a,Im b,Im c,Im d],.bool better] w λe w'=>e=.returned (.tuple #[])/\
  kM B C w' M SB v (Hx.choose ⟨0,a,b,c,d,0,0⟩ better m)/\Below B w w':=by
 by_cases h:better=true\/m.jE.getD a 0= -1
 .refine(aiU hm a b c d better ha hb hc hd h).mono ?_;rintro e w' ⟨rfl,h1,h2⟩;have hk:(better||m.get (a:Int)== -1)=true:=by
   rcases h with rfl|h
   .rfl
   .simp only[Hx.Mc.get,bK,h];simp
  refine⟨rfl,?_,h2⟩;unfold Hx.choose;rw[jl hk];simpa [Hx.Mc.get]using h1
 .have hb':better=false:=by
   cases better
   .rfl
   .exact jq (ji rfl) h
  subst hb';have hx:¬m.jE.getD a 0= -1:=λe=>h (jh e);refine(aiS hm a b c d ha hc hd hx).mono ?_;rintro e w' ⟨rfl,h1,h2⟩;refine⟨rfl,?_,h2⟩;unfold Hx.choose;have hk:¬(false||m.get (a:Int)== -1)=true:=by
   simp only[Hx.Mc.get,bK,ig,beq_iff_eq];exact hx
  rw[jk hk];exact h1
end
end
section
open Go.RowKit
open Hx (Rd Pk Vw St Mc jO)
attribute [local go_sem ↓] Go.wp_at_zero Go.wp_at_succ
section
variable {B C:Nat}{w:jo}{M SB:Nat}{v:Vw}{m:Mc}
theorem aeD(hm:kM B C w M SB v m){a:Nat}{x:Int}(ha:a<m.jE.length)(hx:jO x)(o:Obj)(n:Nat):
 kM B C (((w.alloc o).drewN n).setCell (Ad SB a) (Im x)) M SB v (m.put a x)/\
 Below B w (((w.alloc o).drewN n).setCell (Ad SB a) (Im x)):=by
 refine⟨((hm.alloc o).drewN n).put ha hx,?_⟩;have:=hm.bS;have h0:=hm.size;have h1:=hm.cS;exact(below_drewN ((dK _ _).alloc (by omega) o) n).setCell (p:=(Ad SB a)) this _
theorem TF(w:jo)(x:Addr)(u:jr)(c:Array jr)(t:jv)(i:Nat):((w.setCell x u).alloc (.cells c t)).cell? (Ad w.heap.size i)=c[i]? :=
 fQ _ _ _ _ (by simp)
theorem aeE(hm:kM B C w M SB v m){a:Nat}{x:Int}(ha:a<m.jE.length)(hx:jO x)(o:Obj)(n:Nat):
 kM B C (((w.setCell (Ad SB a) (Im x)).alloc o).drewN n) M SB v (m.put a x)/\
 Below B w (((w.setCell (Ad SB a) (Im x)).alloc o).drewN n):=by
 refine⟨((hm.put ha hx).alloc o).drewN n,?_⟩;have:=hm.bS;have h0:=hm.size;have h1:=hm.cS;exact below_drewN (((dK _ _).setCell (p:=(Ad SB a)) this _).alloc (by simp;omega) o) n
theorem ar0(hm:kM B C w M SB v m)(b o:Nat)(a:Nat)(x c d dp t:Int)(hb:b<B)(hst:zu w b o ⟨6,a,x,c,d,dp,t⟩)(ha:a<m.jE.length)(hx:jO x):
 Calls prog 55 #[Pt M 0,Pt b o] w λe w'=>e=.returned (.tuple #[])/\kM B C w' M SB v (m.put a x)/\Below B w w':=by
 have HP:Hid (∀o n,kM B C (((w.setCell (Ad SB a) (Im x)).alloc o).drewN n) M SB v (m.put a x)/\
  Below B w (((w.setCell (Ad SB a) (Im x)).alloc o).drewN n)):=λo n=>aeE hm ha hx o n
 have kb:=λ(u:jr)(c:Array jr)(i:Nat)=>TF w (Ad SB a) u c 123 i;have hs:=hm.jE;have ca:=hm.slot a ha;have fa:=hm.BP a ha;have h0:=hm.size;have h1:=hm.cS;have h2:=hm.cM;have h3:=hm.bM;have n1:¬SB=w.heap.size:=by omega
 have n3:¬SB=M:=λe=>hm.ne e.symm;have n2:¬M=w.heap.size:=by omega
 have n4:¬b=w.heap.size:=by omega
 have FW:SB<w.heap.size:=by omega
 have hM:M<w.heap.size:=by omega
 have hbs:b<w.heap.size:=by omega
 obtain⟨s0,s1,s2,s3,s4,s5,s6⟩:=hst;simp only at s0 s1 s2 s3 s4;clear hm h0 h1 h2 h3 s5 s6;generalize m.jE.getD a 0=xa at *;generalize m.jE.length=len at *;have i1:(0:Int)<=(a:Int):=by omega
 have j1:(a:Int)<(len:Int):=by omega
 go_enter func55,ntmps55;go_wp2_with fail;go_region_held3 (λw'=>w'.cell? (Ad M 3)=some (.slice (some (Ad SB 0)) len len)/\w'.cell? (Ad w.heap.size 0)=some (Im a)/\w'.cell? (Ad w.heap.size 1)=some (Im x)) (go_keep) (fail);go_wp2;go_end0;exact⟨rfl,HP.out _ 1⟩
theorem aht(v:Vw)(l:Int):jO (v.all l):=by
 unfold Hx.Vw.all Hx.tk;repeat' split
 all_goals exact Hx.Dh _
theorem arV(hm:kM B C w M SB v m)(b o:Nat)(a:Nat)(l c d dp t:Int)(hb:b<B)(hst:zu w b o ⟨21,a,l,c,d,dp,t⟩)(ha:a<m.jE.length):
 Calls prog 55 #[Pt M 0,Pt b o] w λe w'=>e=.returned (.tuple #[])/\kM B C w' M SB v (m.put a (v.all l))/\Below B w w':=by
 have HP:Hid (∀o n,kM B C (((w.alloc o).drewN n).setCell (Ad SB a) (Im (v.all l))) M SB v (m.put a (v.all l))/\
  Below B w (((w.alloc o).drewN n).setCell (Ad SB a) (Im (v.all l)))):=λo n=>aeD hm ha (aht v l) o n
 have kb:=λ(u:jr)(c:Array jr)(i:Nat)=>TF w (Ad SB a) u c 123 i;have HV:Hid (∀o n,Bl B ((w.alloc o).drewN n) M v):=λo n=>((hm.alloc o).drewN n).view;have ca:=hm.slot a ha;have fa:=hm.BP a ha;have hs:=hm.jE;have h0:=hm.size;have h1:=hm.cS;have h2:=hm.cM;have h3:=hm.bM;have n1:¬SB=w.heap.size:=by omega
 have n3:¬SB=M:=λe=>hm.ne e.symm;have n2:¬M=w.heap.size:=by omega
 have n4:¬b=w.heap.size:=by omega
 have FW:SB<w.heap.size:=by omega
 have hM:M<w.heap.size:=by omega
 have hbs:b<w.heap.size:=by omega
 obtain⟨s0,s1,s2,s3,s4,s5,s6⟩:=hst;simp only at s0 s1 s2 s3 s4;clear hm h0 h1 h2 h3 s5 s6;generalize m.jE.getD a 0=xa at *;generalize m.jE.length=len at *;have i1:(0:Int)<=(a:Int):=by omega
 have j1:(a:Int)<(len:Int):=by omega
 go_enter func55,ntmps55;go_wp2_with fail;go_region_held3 (λw'=>w'.cell? (Ad M 3)=some (.slice (some (Ad SB 0)) len len)/\w'.cell? (Ad w.heap.size 0)=some (Im a)/\w'.cell? (Ad w.heap.size 1)=some (Im l)) (go_keep)
  ((go_at_call 95;refine(Zo B M _ v _ (HV.out _ 1)).mono ?_;rintro e w' ⟨rfl,rfl⟩))
 go_wp2;go_end0;exact⟨rfl,HP.out _ 1⟩
theorem arX(hm:kM B C w M SB v m)(b o:Nat)(a x:Nat)(c d dp t:Int)(hb:b<B)(hst:zu w b o ⟨22,a,x,c,d,dp,t⟩)(ha:a<m.jE.length)(hx:x<m.jE.length):
 Calls prog 55 #[Pt M 0,Pt b o] w λe w'=>e=.returned (.tuple #[])/\kM B C w' M SB v (m.put a (Hx.vJ (m.jE.getD a 0) (m.jE.getD x 0)))/\Below B w w':=by
 have HP:Hid (∀o n,kM B C (((w.setCell (Ad SB a) (Im (Hx.vJ (m.jE.getD a 0) (m.jE.getD x 0)))).alloc o).drewN n) M SB v (m.put a (Hx.vJ (m.jE.getD a 0) (m.jE.getD x 0)))/\
  Below B w (((w.setCell (Ad SB a) (Im (Hx.vJ (m.jE.getD a 0) (m.jE.getD x 0)))).alloc o).drewN n)):=λo n=>aeE hm ha (Hx.Js _ _ _) o n
 have kb:=λ(u:jr)(c:Array jr)(i:Nat)=>TF w (Ad SB a) u c 123 i;have ca:=hm.slot a ha;have fa:=hm.BP a ha;have cx:=hm.slot x hx;have hs:=hm.jE;have h0:=hm.size;have h1:=hm.cS;have h2:=hm.cM;have h3:=hm.bM;have n1:¬SB=w.heap.size:=by omega
 have n3:¬SB=M:=λe=>hm.ne e.symm;have n2:¬M=w.heap.size:=by omega
 have n4:¬b=w.heap.size:=by omega
 have FW:SB<w.heap.size:=by omega
 have hM:M<w.heap.size:=by omega
 have hbs:b<w.heap.size:=by omega
 obtain⟨s0,s1,s2,s3,s4,s5,s6⟩:=hst;simp only at s0 s1 s2 s3 s4;clear hm h0 h1 h2 h3 s5 s6;generalize hk:Hx.vJ (m.jE.getD a 0) (m.jE.getD x 0)=kk at HP⊢;have HK:=hk.symm;clear hk;generalize m.jE.getD a 0=xa at *;generalize m.jE.getD x 0=xx at *;generalize m.jE.length=len at *;unfold Hx.vJ Hx.pU at HK;subst HK;have i1:(0:Int)<=(a:Int):=by omega
 have j1:(a:Int)<(len:Int):=by omega
 have i2:(0:Int)<=(x:Int):=by omega
 have j2:(x:Int)<(len:Int):=by omega
 have u0:0<=IntKind.u64.wrap xx:=by rw[IntKind.wrap_u64];omega
 have u1:IntKind.u64.wrap xx%64<64:=by omega
 have u2:0<=IntKind.u64.wrap xx%64:=by omega
 go_enter func55,ntmps55;go_wp2_with fail;go_region;go_wp2;go_end0;exact⟨rfl,HP.out _ 1⟩
theorem agB{P:Program}{id:Nat}{Q:Exit->Act->jo->Prop}{a:Act}{w:jo}{l:List Oper}(n:Nat)(hm:P.follows .mixedOrders=true)(hB:Region.lexTailB .any l.toArray n=true)
 (h:wpStill P l.toArray w.drew (λa'=>wpList P l.toArray Q (l.drop n) a' w.drew) (l.take n) a):(Code.region id l.toArray true).wp P Q a w:=
 wp_region_still_tail n hm hB h
theorem arY(hm:kM B C w M SB v m)(b o:Nat)(a x c d:Nat)(dp t:Int)(hb:b<B)(hst:zu w b o ⟨25,a,x,c,d,dp,t⟩)(ha:a<m.jE.length)(hx:x<m.jE.length)(hc:c<m.jE.length)(hd:d<m.jE.length):
 Calls prog 55 #[Pt M 0,Pt b o] w λe w'=>e=.returned (.tuple #[])/\kM B C w' M SB v (Hx.choose ⟨0,a,x,c,d,0,0⟩ (decide (m.jE.getD d 0<m.jE.getD x 0)) m)/\Below B w w':=by
 have HC:Hid (∀(o:Obj)(better:Bool),Calls prog 99 #[Pt M 0,.agg #[Im a,Im x,Im c,Im d],.bool better] ((w.alloc o).drew) λe w'=>e=.returned (.tuple #[])/\
  kM B C w' M SB v (Hx.choose ⟨0,a,x,c,d,0,0⟩ better m)/\Below B ((w.alloc o).drew) w'):=λo better=>aak ((hm.alloc o).drewN 1) a x c d better ha hx hc hd
 have HB:Hid (∀(o:Obj)(n:Nat),Below B w ((w.alloc o).drewN n)):=λo n=>below_drewN ((dK _ _).alloc (by have:=hm.size;have:=hm.cM;have:=hm.bM;omega) o) n;have cx:=hm.slot x hx;have cd:=hm.slot d hd;have hs:=hm.jE;have h0:=hm.size;have h1:=hm.cS;have h2:=hm.cM;have h3:=hm.bM;have n1:¬SB=w.heap.size:=by omega
 have n3:¬SB=M:=λe=>hm.ne e.symm;have n2:¬M=w.heap.size:=by omega
 have n4:¬b=w.heap.size:=by omega
 have FW:SB<w.heap.size:=by omega
 have hM:M<w.heap.size:=by omega
 have hbs:b<w.heap.size:=by omega
 obtain⟨s0,s1,s2,s3,s4,s5,s6⟩:=hst;simp only at s0 s1 s2 s3 s4;clear hm h0 h1 h2 h3 s5 s6;generalize m.jE.getD x 0=xx at *;generalize m.jE.getD d 0=xd at *;generalize m.jE.length=len at *;have i2:(0:Int)<=(x:Int):=by omega
 have j2:(x:Int)<(len:Int):=by omega
 have i4:(0:Int)<=(d:Int):=by omega
 have j4:(d:Int)<(len:Int):=by omega
 go_enter func55,ntmps55;go_wp2_with fail;refine agB 19 (by kernel_rfl) (by kernel_rfl) ?_;simp only[aC,aO,aG,aQ];repeat still_step
 refine wpStill_nil ?_;go_wp2_with fail;refine(HC.out _ _).mono ?_;rintro e w1 ⟨rfl,hm1,hb1⟩;go_wp2;go_end0;exact⟨rfl,hm1,(HB.out _ 1).trans hb1⟩
theorem arZ(hm:kM B C w M SB v m)(b o:Nat)(a x c d:Nat)(dp t:Int)(hb:b<B)(hst:zu w b o ⟨26,a,x,c,d,dp,t⟩)(ha:a<m.jE.length)(hx:x<m.jE.length)(hc:c<m.jE.length)(hd:d<m.jE.length):
 Calls prog 55 #[Pt M 0,Pt b o] w λe w'=>e=.returned (.tuple #[])/\kM B C w' M SB v (Hx.choose ⟨0,a,x,c,d,0,0⟩ (decide (m.jE.getD x 0<m.jE.getD d 0)) m)/\Below B w w':=by
 have HC:Hid (∀(o:Obj)(better:Bool),Calls prog 99 #[Pt M 0,.agg #[Im a,Im x,Im c,Im d],.bool better] ((w.alloc o).drew) λe w'=>e=.returned (.tuple #[])/\
  kM B C w' M SB v (Hx.choose ⟨0,a,x,c,d,0,0⟩ better m)/\Below B ((w.alloc o).drew) w'):=λo better=>aak ((hm.alloc o).drewN 1) a x c d better ha hx hc hd
 have HB:Hid (∀(o:Obj)(n:Nat),Below B w ((w.alloc o).drewN n)):=λo n=>below_drewN ((dK _ _).alloc (by have:=hm.size;have:=hm.cM;have:=hm.bM;omega) o) n;have cx:=hm.slot x hx;have cd:=hm.slot d hd;have hs:=hm.jE;have h0:=hm.size;have h1:=hm.cS;have h2:=hm.cM;have h3:=hm.bM;have n1:¬SB=w.heap.size:=by omega
 have n3:¬SB=M:=λe=>hm.ne e.symm;have n2:¬M=w.heap.size:=by omega
 have n4:¬b=w.heap.size:=by omega
 have FW:SB<w.heap.size:=by omega
 have hM:M<w.heap.size:=by omega
 have hbs:b<w.heap.size:=by omega
 obtain⟨s0,s1,s2,s3,s4,s5,s6⟩:=hst;simp only at s0 s1 s2 s3 s4;clear hm h0 h1 h2 h3 s5 s6;generalize m.jE.getD x 0=xx at *;generalize m.jE.getD d 0=xd at *;generalize m.jE.length=len at *;have i2:(0:Int)<=(x:Int):=by omega
 have j2:(x:Int)<(len:Int):=by omega
 have i4:(0:Int)<=(d:Int):=by omega
 have j4:(d:Int)<(len:Int):=by omega
 go_enter func55,ntmps55;go_wp2_with fail;refine agB 19 (by kernel_rfl) (by kernel_rfl) ?_;simp only[aC,aO,aG,aQ];repeat still_step
 refine wpStill_nil ?_;go_wp2_with fail;refine(HC.out _ _).mono ?_;rintro e w1 ⟨rfl,hm1,hb1⟩;go_wp2;go_end0;exact⟨rfl,hm1,(HB.out _ 1).trans hb1⟩
end
end
section
open Go.RowKit
open Hx (Rd Pk Vw St Mc jO)
section
variable {B C:Nat}{w:jo}{M SB:Nat}{v:Vw}{m:Mc}
theorem ar1(hm:kM B C w M SB v m)(b o:Nat)(q:Int)(a x c:Nat)(d dp t:Int)(hb:b<B)(hst:zu w b o ⟨q,a,x,c,d,dp,t⟩)(ha:a<m.jE.length)(hx:x<m.jE.length)(hc:c<m.jE.length)
 (q1:(q==6)=false)(q2:(q==21)=false)(q3:(q==22)=false)(q4:(q==25)=false)(q5:(q==26)=false)(hin:jO (Hx.outcome v q (m.jE.getD x 0) (m.jE.getD c 0))):
 Calls prog 55 #[Pt M 0,Pt b o] w λe w'=>e=.returned (.tuple #[])/\kM B C w' M SB v (m.put a (Hx.outcome v q (m.jE.getD x 0) (m.jE.getD c 0)))/\Below B w w':=by
 have HP:Hid (∀o n,kM B C (((w.alloc o).drewN n).setCell (Ad SB a) (Im (Hx.outcome v q (m.jE.getD x 0) (m.jE.getD c 0)))) M SB v (m.put a (Hx.outcome v q (m.jE.getD x 0) (m.jE.getD c 0)))/\
  Below B w (((w.alloc o).drewN n).setCell (Ad SB a) (Im (Hx.outcome v q (m.jE.getD x 0) (m.jE.getD c 0))))):=λo n=>aeD hm ha hin o n
 have HV:Hid (∀o n,Bl B ((w.alloc o).drewN n) M v/\rW ((w.alloc o).drewN n)):=λo n=>⟨((hm.alloc o).drewN n).view,((hm.alloc o).drewN n).J4⟩;have hxm:m.jE.getD x 0<=9223372036854775807:=(hm.Df x).2;have ca:=hm.slot a ha;have fa:=hm.BP a ha;have cx:=hm.slot x hx;have cc:=hm.slot c hc;have hs:=hm.jE;have h0:=hm.size;have h1:=hm.cS;have h2:=hm.cM;have h3:=hm.bM;have n1:¬SB=w.heap.size:=by omega
 have n3:¬SB=M:=λe=>hm.ne e.symm;have n2:¬M=w.heap.size:=by omega
 have n4:¬b=w.heap.size:=by omega
 have FW:SB<w.heap.size:=by omega
 have hM:M<w.heap.size:=by omega
 have hbs:b<w.heap.size:=by omega
 obtain⟨s0,s1,s2,s3,s4,s5,s6⟩:=hst;simp only at s0 s1 s2 s3 s4;clear hm h0 h1 h2 h3 s5 s6 hin;generalize m.jE.getD a 0=xa at *;generalize m.jE.getD x 0=xx at *;generalize m.jE.getD c 0=xc at *;generalize hy:Hx.outcome v q xx xc=y at HP⊢;have HY:Hid (Hx.outcome v q xx xc=y):=hy;clear hy;generalize m.jE.length=len at *;have i1:(0:Int)<=(a:Int):=by omega
 have j1:(a:Int)<(len:Int):=by omega
 have i2:(0:Int)<=(x:Int):=by omega
 have j2:(x:Int)<(len:Int):=by omega
 have i3:(0:Int)<=(c:Int):=by omega
 have j3:(c:Int)<(len:Int):=by omega
 go_enter func55,ntmps55;go_wp2_with fail;refine nJ 29 (by kernel_rfl) (by kernel_rfl) ?_;simp only[aC,aO,aG,aQ];repeat (go_big_quiet_step ((go_at_call 100;exact Calls.quiet_of (aoj B M q xx xc v _ (HV.out _ _).1 (HV.out _ _).2 hxm))))
 refine bF ?_;intro _ hw';obtain⟨nq,hw''⟩:=hw';subst hw'';rw[HY.out];go_wp2;go_end0;exact⟨rfl,HP.out _ _⟩
theorem arW(hm:kM B C w M SB v m)(b o:Nat)(s:St)(hb:b<B)(hst:zu w b o s)(hs:s.RJ m.jE.length):
 Calls prog 55 #[Pt M 0,Pt b o] w λe w'=>e=.returned (.tuple #[])/\kM B C w' M SB v (Hx.work v s m)/\Below B w w':=by
 obtain⟨q,a,x,c,d,dp,t⟩:=s;obtain⟨h1,⟨ha0,ha⟩,hs⟩:=hs;simp only at h1 ha0 ha hs;obtain⟨a,rfl⟩:=bI ha0;have ha':a<m.jE.length:=by omega
 by_cases q1:q=6
 .subst q1;refine(ar0 hm b o a x c d dp t hb hst ha' h1).mono ?_;rintro e w' ⟨rfl,h2,h3⟩;exact⟨rfl,by simpa [Hx.work]using h2,h3⟩
 by_cases q2:q=21
 .subst q2;refine(arV hm b o a x c d dp t hb hst ha').mono ?_;rintro e w' ⟨rfl,h2,h3⟩;exact⟨rfl,by simpa [Hx.work]using h2,h3⟩
 obtain⟨⟨hx0,hx⟩,hs2⟩:=(hs.resolve_left q1).resolve_left q2;clear hs;obtain⟨x,rfl⟩:=bI hx0;have hx':x<m.jE.length:=by omega
 by_cases q3:q=22
 .subst q3;refine(arX hm b o a x c d dp t hb hst ha' hx').mono ?_;rintro e w' ⟨rfl,h2,h3⟩;exact⟨rfl,by simpa [Hx.work,Hx.Mc.get]using h2,h3⟩
 obtain⟨⟨hc0,hc⟩,hs3⟩:=hs2.resolve_left q3;clear hs2;obtain⟨c,rfl⟩:=bI hc0;have hc':c<m.jE.length:=by omega
 by_cases q4:q=25
 .subst q4;obtain⟨hd0,hd⟩:=hs3 (ji rfl);obtain⟨d,rfl⟩:=bI hd0;refine(arY hm b o a x c d dp t hb hst ha' hx' hc' (by omega)).mono ?_;rintro e w' ⟨rfl,h2,h3⟩;exact⟨rfl,by simpa [Hx.work,Hx.choose,Hx.Mc.get]using h2,h3⟩
 by_cases q5:q=26
 .subst q5;obtain⟨hd0,hd⟩:=hs3 (jh rfl);obtain⟨d,rfl⟩:=bI hd0;refine(arZ hm b o a x c d dp t hb hst ha' hx' hc' (by omega)).mono ?_;rintro e w' ⟨rfl,h2,h3⟩;exact⟨rfl,by simpa [Hx.work,Hx.choose,Hx.Mc.get]using h2,h3⟩
 refine(ar1 hm b o q a x c d dp t hb hst ha' hx' hc' (by simpa using q1) (by simpa using q2) (by simpa using q3) (by simpa using q4) (by simpa using q5) (Hx.UO hm.view.Gl _ _ _ (hm.Df x))).mono ?_;rintro e w' ⟨rfl,h2,h3⟩;exact⟨rfl,by simpa [Hx.work,Hx.Mc.get,q1,q2,q3,q4,q5]using h2,h3⟩
end
def uw:Int->List Rd->Bool
 |_,[]=>true
 |seen,r::rs=>if r.id<0\/8<=r.id\/Hx.Pq seen r.id=true then false else uw (bits .or .i64 seen (wrap64 (2^r.id.toNat))) rs
def AO(v:Vw):Bool:=decide (v.pO.length<=8)&&decide (v.qB.length<=16)&&decide (v.qy.length<=16)&&uw 0 v.pO
theorem abW:∀(rs:List Rd)(seen:Int),uw seen rs=true->∀r∈rs,0<=r.id/\r.id<8
 |[],_,_,r,hr=>by cases hr
 |q::rs,seen,h,r,hr=>by
  unfold uw at h;split at h
  .cases h
  .rename_i hq;rcases dh.1 hr with rfl|hr
   .omega
   .exact abW rs _ h r hr
theorem YH{v:Vw}(h:AO v=true):Good v:=by
 simp only[AO,dD,decide_eq_true_eq]at h;exact⟨h.1.1.1,h.1.1.2,h.1.2,abW _ _ h.2⟩
theorem aln(ar af aa:Option Addr)(nr cr nf cf na ca:Nat)(w:jo)(hl:8<nr\/16<nf\/16<na):
 Calls prog 50 #[.agg #[.slice ar nr cr,.slice af nf cf,.slice aa na ca]] w λe w'=>e=.returned (.bool false)/\Below w.heap.size w w':=by
 by_cases h1:8<nr
 .have d1:decide ((8:Int)<(nr:Int))=true:=by simp;omega
  go_enter func50,ntmps50;go_wp2;go_ret;exact⟨rfl,(dK _ _).alloc (aj _) _⟩
 .have d1:decide ((8:Int)<(nr:Int))=false:=by simp;omega
  by_cases h2:16<nf
  .have d2:decide ((16:Int)<(nf:Int))=true:=by simp;omega
   go_enter func50,ntmps50;go_wp2;go_ret;exact⟨rfl,(dK _ _).alloc (aj _) _⟩
  .have d2:decide ((16:Int)<(nf:Int))=false:=by simp;omega
   have d3:decide ((16:Int)<(na:Int))=true:=by simp;omega
   go_enter func50,ntmps50;go_wp2;go_ret;exact⟨rfl,(dK _ _).alloc (aj _) _⟩
theorem alo(ar af aa:Option Addr)(nr cr nf cf na ca:Nat)(rs:List Rd)(w:jo)(hn:nr=rs.length)(h1:nr<=8)(h2:nf<=16)(h3:na<=16)(hr:G7 w.heap.size w ar rs):
 Calls prog 50 #[.agg #[.slice ar nr cr,.slice af nf cf,.slice aa na ca]] w λe w'=>e=.returned (.bool (uw 0 rs))/\Below w.heap.size w w':=by
 have d1:decide ((8:Int)<(nr:Int))=false:=by simp;omega
 have d2:decide ((16:Int)<(nf:Int))=false:=by simp;omega
 have d3:decide ((16:Int)<(na:Int))=false:=by simp;omega
 have HN:=jB hn;clear hn;go_enter func50,ntmps50;go_wp2;go_loopw [3,25] (λsn i wr=>∃(k:Nat)(seen:Int),k<=nr/\i=Im k/\sn=Im seen/\Hid (uw 0 rs=uw seen (rs.drop k))/\Below w.heap.size w wr/\Hid (w.heap.size<wr.heap.size)) (λ_ i _=>nr-(intOf i).toNat)
 case atStart=>exact⟨0,0,bD _,rfl,rfl,rfl,(dK _ _).alloc (aj _) _,by show _<_;simp⟩
 case round=>
  obtain⟨k,seen,hk,rfl,rfl,HE,hb,HS⟩:=hrel;by_cases hlt:k<nr
  .have hkl:k<rs.length:=by have:=HN.out;omega
   have hget:rs[k]? =some rs[k]:=by simp
   obtain⟨b,o,rfl,hbb,b',o',e,c1,c2,c3,c4,c5⟩:=hr k _ hget;obtain⟨rfl,rfl⟩:b=b'/\o+k * 5=o':=by simpa using e
   have HD:Hid (rs.drop k=rs[k]::rs.drop (k+1)):=dA (by omega);generalize rs[k]=r at *;have w1:=(hb.cell (p:=(Ad b (o+k * 5))) hbb).trans c1;have w2:=(hb.cell (p:=(Ad b (o+k * 5+1))) hbb).trans c2;have w3:=(hb.cell (p:=(Ad b (o+k * 5+2))) hbb).trans c3;have w4:=(hb.cell (p:=(Ad b (o+k * 5+3))) hbb).trans c4;have w5:=(hb.cell (p:=(Ad b (o+k * 5+4))) hbb).trans c5;have HB:=jB (λo=>hb.alloc (by have:=HS.out;omega) o);have i1:(0:Int)<=(k:Int):=by omega
   have j1:(k:Int)<(nr:Int):=by omega
   clear hr hget e c1 c2 c3 c4 c5 hb hkl;by_cases t1:r.id<0
   .have t1':decide (r.id<0)=true:=by simpa using t1
    have HF:Hid (uw 0 rs=false):=by
     show uw 0 rs=false;rw[HE.out,HD.out];unfold uw;rw[jl (ji t1)]
    clear t1;go_wp2;go_ret;exact⟨Ar HF.out.symm,HB.out _⟩
   .have t1':decide (r.id<0)=false:=by simpa using t1
    by_cases t2:8<=r.id
    .have t2':decide (8<=r.id)=true:=by simpa using t2
     have HF:Hid (uw 0 rs=false):=by
      show uw 0 rs=false;rw[HE.out,HD.out];unfold uw;rw[jl (jh (ji t2))]
     clear t1 t2;go_wp2;go_ret;exact⟨Ar HF.out.symm,HB.out _⟩
    .have t2':decide (8<=r.id)=false:=by simpa using t2
     have k0:0<=r.id:=by omega
     have k8:r.id<8:=by omega
     cases hbit:Hx.Pq seen r.id with
     |true=>
      have HF:Hid (uw 0 rs=false):=by
       show uw 0 rs=false;rw[HE.out,HD.out];unfold uw;rw[jl (jh (jh hbit))]
      have HC:Hid (∀w,Calls prog 94 #[Im seen,Im r.id] w λe w'=>e=.returned (.bool true)/\w'=w):=λw=>by rw[<-hbit];exact Ur seen r.id w k0 k8
      clear t1 t2 hbit;go_wp2_with (go_at_call 94;refine(HC.out _).mono ?_;rintro e w' ⟨rfl,rfl⟩);go_ret;exact⟨Ar HF.out.symm,HB.out _⟩
     |false=>
      have HF:Hid (uw 0 rs=uw (bits .or .i64 seen (wrap64 (2^r.id.toNat))) (rs.drop (k+1))):=by
       show uw 0 rs=_;rw[HE.out,HD.out];conv=>lhs;unfold uw
       rw[jk (by rw[hbit];simp;omega)]
      have HC:Hid (∀w,Calls prog 94 #[Im seen,Im r.id] w λe w'=>e=.returned (.bool false)/\w'=w):=λw=>by rw[<-hbit];exact Ur seen r.id w k0 k8
      clear t1 t2 hbit;go_wp2_with (go_at_call 94;refine(HC.out _).mono ?_;rintro e w' ⟨rfl,rfl⟩);go_roundw
      case rel=>exact⟨k+1,_,by omega,by go_num,rfl,HF,HB.out _,by have:=HS.out;show _<_;simp;omega⟩
      case measure=>simp[intOf];omega
  .have HF:Hid (uw 0 rs=true):=by
    rw[HE.out,List.drop_eq_nil_of_le (by have:=HN.out;omega)];rfl
   clear hr;go_wp2;go_ret;exact⟨Ar HF.out.symm,hb⟩
theorem G7.mono{B B':Nat}{w:jo}{a:Option Addr}{rs:List Rd}(h:G7 B w a rs)(hB:B<=B'):G7 B' w a rs:=λi r hr=>by
 obtain⟨b,o,e,hb,hp⟩:=h i r hr;exact⟨b,o,e,by omega,hp⟩
theorem alm{B:Nat}{w:jo}{ar af aa:Option Addr}{nr nf na:Nat}{v:Vw}(cr cf ca:Nat)(hv:wu B w ar af aa nr nf na v)(hB:B<=w.heap.size):
 Calls prog 50 #[.agg #[.slice ar nr cr,.slice af nf cf,.slice aa na ca]] w λe w'=>e=.returned (.bool (AO v))/\Below w.heap.size w w':=by
 have e1:=hv.MQ;have e2:=hv.MP;have e3:=hv.MO;by_cases hl:8<nr\/16<nf\/16<na
 .refine(aln ar af aa nr cr nf cf na ca w hl).mono ?_;rintro e w' ⟨rfl,h⟩;refine⟨Ar ?_,h⟩;unfold AO;rw[<-e1,<-e2,<-e3];rcases hl with hl|hl|hl
  .rw[dO (show¬nr<=8 by omega)];rfl
  .rw[dO (show¬nf<=16 by omega)];simp
  .rw[dO (show¬na<=16 by omega)];simp
 .refine(alo ar af aa nr cr nf cf na ca v.pO w e1 (by omega) (by omega) (by omega) (hv.pO.mono hB)).mono ?_;rintro e w' ⟨rfl,h⟩;refine⟨Ar ?_,h⟩;unfold AO;rw[<-e1,<-e2,<-e3,dR (show nr<=8 by omega),dR (show nf<=16 by omega),dR (show na<=16 by omega)]
  rfl
end
end Go.Proofs.YthllhabjfchgiaaGreatDoor
