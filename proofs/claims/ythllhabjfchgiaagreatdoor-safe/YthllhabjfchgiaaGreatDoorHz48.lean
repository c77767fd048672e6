import Derived.Test.YthllhabjfchgiaaGreatDoorHz47
import Derived.Test.YthllhabjfchgiaaGreatDoorTie
import Derived.Test.YthllhabjfchgiaaGreatDoorHz19
import Derived.LaidMore
import Derived.ShutString
import Derived.ChangeOld
import Derived.Stop.Joined
import Derived.Stop.LaidErr
import Derived.Lib.LaidTab
import Derived.SevenTiedAt
import Derived.JoinedCond
import Derived.Deep.DeepHandedRow
import Derived.Deep.DeepWitnessRowRef
set_option maxRecDepth 100000
set_option maxHeartbeats 8000000
namespace Go.Proofs.YthllhabjfchgiaaGreatDoor
open _root_.Go.Proofs.Tryz
section
open Go.RowKit Hx
attribute [local go_sem ↓] Go.wp_at_zero Go.wp_at_succ
attribute [local go_sem] bT
section
variable {w w' w2 w1:World}{tag tag':Nat->Nat}{L n:Nat}{s s':aO}{bs:List UInt8}
theorem oK.lf{w0 wr:World}{k t:Nat}(h:oK w0 tag L bs k t wr):∃tag',Lf w0 tag wr tag':=by
 obtain⟨⟨s,p,⟨t1,hl,hf⟩,_⟩,_⟩:=h;exact⟨t1,hf⟩
theorem oK.below{w0 wr:World}{k t:Nat}(h:oK w0 tag L bs k t wr)(hb:Below w.heap.size w w0)(ht:∀b,b<w.heap.size->tag b=0):Below w.heap.size w wr:=by
 obtain⟨t1,f⟩:=h.lf;have hs:=hb.size;exact hb.trans ⟨f.os,f.tape,f.output,f.size,fun b hb2=>f.aN b (by omega) (ht b hb2)⟩
theorem Gi.later{B:Nat}{ad:Option Addr}{l:List Gg}(h:Gi B w ad l)(hb:Below B w w'):Gi B w' ad l:=fun i o hi=>by
 obtain⟨b,f,e1,e2,c0,c1,c2⟩:=h i o hi;exact⟨b,f,e1,e2,(hb.cell (p:=(Ad b _)) e2).trans c0,(hb.cell (p:=(Ad b _)) e2).trans c1,(hb.cell (p:=(Ad b _)) e2).trans c2⟩
theorem Yp(u:Nat):Int.tdiv (u:Int) 8=((u/8:Nat):Int):=by
 rw[Int.tdiv_eq_ediv_of_nonneg (by omega)];omega
theorem vC.parts(h:vC w1 L bs n w2)(hb:Below w.heap.size w w1):∃tag,fZ w2 tag L bs (uN n)/\Below w.heap.size w w2/\∀b,b<w.heap.size->tag b=0:=by
 obtain⟨tag,R,pk,cap,ρ,C,h1,h2,h3,h4⟩:=h;have hs:=hb.size;exact⟨tag,⟨R,pk,cap,ρ,C,h1,h2⟩,hb.trans ((Below.Bj h4).mono hs),fun b hb2=>h3 b (by omega)⟩
theorem aho(src code:ByteArray)(c:Int)(hc:aZ c)(ad:Option Addr)(cp:Nat)(l:List Gg)(hl:l.length<=1048576)(hsc:Gi w.heap.size w ad l)(hin:∀o∈l,aZ o.kind/\aZ o.a/\aZ o.b)(hT:mZ w)(hone:1<w.heap.size):
 Calls prog 9 #[.string src,.string code,Im c,.slice ad l.length cp] w fun e w'=>e=.returned (.bool true)/\Below w.heap.size w w':=by
 obtain⟨p0,p1⟩:=Iy (c:=c) (n:=4) (by omega);obtain⟨n,hpn⟩:∃n:Nat,(1:Int)+mP c 4=(n:Int):=⟨(1+mP c 4).toNat,by omega⟩;have hn1:1<=n:=by omega
 have uZ:Hid (Calls prog 30 #[] w fun e w'=>e=.returned (.bool true)/\Below w.heap.size w w'):=ad3 hT hone;have FU:Hid (∀y src code,Below w.heap.size w y->Calls prog 33 #[.string src,.string code,Im c] y fun e w'=>(qA src code=true->∃L,e=.returned (Pt L 0)/\vC y L (yI src code).data.toList n w')/\(qA src code=false->e=.returned (.pointer none)/\y.grownBy w' none)):=fun y src code hb=>acg src code c hc n hpn (hT.later hb hone) (by have:=hb.size;omega);have HSc:=bC (And.intro hsc hin);clear hpn p0 p1 hsc hin hT hone;cases hok:qA src code with
 |true=>
  have oh:=bC hok;clear hok;go_enter func9,ntmps9;go_wp2_with fail;refine uZ.out.mono ?_;rintro e w1 ⟨rfl,b1⟩;clear uZ;have Ar:=bC (FU.out w1 src code b1);clear FU;go_wp2_with fail;refine Ar.out.mono ?_;rintro e w2 ⟨q1,_⟩;obtain⟨L,rfl,hN⟩:=q1 oh.out;obtain⟨tag,hLk,b2,rW⟩:=hN.parts b1;generalize (yI src code).data.toList=bs at *;clear q1 Ar oh b1 hN;have H0:=bC (oK.zero hLk hn1);have HB:=bC (And.intro b2 rW);clear hLk b2 rW;go_wp2_with fail;go_loopg [9,11,12] (l.length+1) (fun gg o t i wr=>Hid (∃k u:Nat,k+gg=l.length+1/\k<=l.length/\o=.bool true/\t=Im u/\i=Im k/\oK w2 tag L bs k u wr))
  case atStart=>exact⟨0,0,by omega,Nat.zero_le _,rfl,rfl,rfl,H0.out⟩
  case round=>
   obtain⟨k,u,hk1,hk2,rfl,rfl,rfl,hS⟩:=hrel.out;clear hrel H0;have htk:=hS.tk;by_cases hlt:k<l.length
   .have d1:decide ((k:Int)<(l.length:Int))=true:=decide_eq_true (by omega);have i0:(0:Int)<=(k:Int):=by omega
    have i1:(k:Int)<(l.length:Int):=by omega
    obtain⟨g',hg'⟩:∃g',gk=g'+1:=⟨gk-1,by omega⟩;obtain⟨o,ho⟩:∃o,l[k]? =some o:=⟨_,List.getElem?_eq_getElem hlt⟩;obtain⟨n1,n2,n3⟩:=HSc.out.2 o (List.mem_of_getElem? ho);obtain⟨b,f,rfl,hb,c0,c1,c2⟩:=(HSc.out.1.later (hS.below HB.out.1 HB.out.2)) k o ho;have FV:Hid (Calls prog 34 #[Pt L 0,.agg #[Im o.kind,Im o.a,Im o.b]] wr fun e w'=>∃v x:Nat,e=.returned (Im (x:Int))/\(u:Int)+(x:Int)=(v:Int)/\v<=1048577/\Hid (oK w2 tag L bs (k+1) v w')):=(hS.UA (by omega) n1 n2 n3).mono fun e w' ⟨d,e1,e2,e3⟩=>⟨u+d,d,e1,by omega,by omega,e3⟩;clear hS ho n1 n2 n3;obtain⟨okd,oa,ob⟩:=o;go_upto_region 14 with(go_at_call 34;refine FV.out.mono ?_;rintro e w4 ⟨v,x,rfl,hv,hv2,wU⟩);obtain⟨v8,CX⟩:∃v8,v/8=v8:=⟨_,rfl⟩;have h8:Int.tdiv (v:Int) 8=(v8:Int):=by rw[Yp,CX]
    have hw8:wrap64 (v8:Int)=(v8:Int):=by unfold wrap64;omega
    have Ea:Hid (Calls prog 35 #[Pt L 0,Im (v8:Int)] w4 fun e w'=>e=.returned (.bool true)/\Hid (oK w2 tag L bs (k+1) v w')):=wU.out.XV (by omega) _ (by rw[CX]);clear FV wU CX;go_wp2_with (go_at_call 35;refine Ea.out.mono ?_;rintro e w5 ⟨rfl,Nh⟩);go_roundg g'
    case measure=>omega
    case rel=>exact⟨k+1,v,by omega,by omega,rfl,rfl,by go_num,Nh.out⟩
   .have d1:decide ((k:Int)<(l.length:Int))=false:=decide_eq_false (by omega);have lJ:=bC (hS.below HB.out.1 HB.out.2);clear hS;go_wp2_with fail;go_ret;exact⟨rfl,lJ.out⟩
 |false=>
  have oh:=bC hok;clear hok;go_enter func9,ntmps9;go_wp2_with fail;refine uZ.out.mono ?_;rintro e w1 ⟨rfl,b1⟩;clear uZ;have Ar:=bC (FU.out w1 src code b1);go_wp2_with fail;refine Ar.out.mono ?_;rintro e w3 ⟨_,q1⟩;obtain⟨rfl,g3⟩:=q1 oh.out;have b3:Below w.heap.size w w3:=b1.trans ((Below.Bj g3).mono b1.size);have FT:=bC (FU.out w3 ⟨#[]⟩ ⟨#[]⟩ b3);clear FU Ar q1 g3 b1 oh;go_wp2_with fail;refine FT.out.mono ?_;rintro e w2 ⟨q1,_⟩;obtain⟨L,rfl,hN⟩:=q1 ab1;obtain⟨tag,hLk,b2,rW⟩:=hN.parts b3;generalize (yI ⟨#[]⟩ ⟨#[]⟩).data.toList=bs at *;clear q1 FT b3 hN;have H0:=bC (oK.zero hLk hn1);have HB:=bC (And.intro b2 rW);clear hLk b2 rW;go_wp2_with fail;go_loopg [9,11,12] (l.length+1) (fun gg o t i wr=>Hid (∃k u:Nat,k+gg=l.length+1/\k<=l.length/\o=.bool true/\t=Im u/\i=Im k/\oK w2 tag L bs k u wr))
  case atStart=>exact⟨0,0,by omega,Nat.zero_le _,rfl,rfl,rfl,H0.out⟩
  case round=>
   obtain⟨k,u,hk1,hk2,rfl,rfl,rfl,hS⟩:=hrel.out;clear hrel H0;have htk:=hS.tk;by_cases hlt:k<l.length
   .have d1:decide ((k:Int)<(l.length:Int))=true:=decide_eq_true (by omega);have i0:(0:Int)<=(k:Int):=by omega
    have i1:(k:Int)<(l.length:Int):=by omega
    obtain⟨g',hg'⟩:∃g',gk=g'+1:=⟨gk-1,by omega⟩;obtain⟨o,ho⟩:∃o,l[k]? =some o:=⟨_,List.getElem?_eq_getElem hlt⟩;obtain⟨n1,n2,n3⟩:=HSc.out.2 o (List.mem_of_getElem? ho);obtain⟨b,f,rfl,hb,c0,c1,c2⟩:=(HSc.out.1.later (hS.below HB.out.1 HB.out.2)) k o ho;have FV:Hid (Calls prog 34 #[Pt L 0,.agg #[Im o.kind,Im o.a,Im o.b]] wr fun e w'=>∃v x:Nat,e=.returned (Im (x:Int))/\(u:Int)+(x:Int)=(v:Int)/\v<=1048577/\Hid (oK w2 tag L bs (k+1) v w')):=(hS.UA (by omega) n1 n2 n3).mono fun e w' ⟨d,e1,e2,e3⟩=>⟨u+d,d,e1,by omega,by omega,e3⟩;clear hS ho n1 n2 n3;obtain⟨okd,oa,ob⟩:=o;go_upto_region 14 with(go_at_call 34;refine FV.out.mono ?_;rintro e w4 ⟨v,x,rfl,hv,hv2,wU⟩);obtain⟨v8,CX⟩:∃v8,v/8=v8:=⟨_,rfl⟩;have h8:Int.tdiv (v:Int) 8=(v8:Int):=by rw[Yp,CX]
    have hw8:wrap64 (v8:Int)=(v8:Int):=by unfold wrap64;omega
    have Ea:Hid (Calls prog 35 #[Pt L 0,Im (v8:Int)] w4 fun e w'=>e=.returned (.bool true)/\Hid (oK w2 tag L bs (k+1) v w')):=wU.out.XV (by omega) _ (by rw[CX]);clear FV wU CX;go_wp2_with (go_at_call 35;refine Ea.out.mono ?_;rintro e w5 ⟨rfl,Nh⟩);go_roundg g'
    case measure=>omega
    case rel=>exact⟨k+1,v,by omega,by omega,rfl,rfl,by go_num,Nh.out⟩
   .have d1:decide ((k:Int)<(l.length:Int))=false:=decide_eq_false (by omega);have lJ:=bC (hS.below HB.out.1 HB.out.2);clear hS;go_wp2_with fail;go_ret;exact⟨rfl,lJ.out⟩
end
end
section
open Go.ChangeShapes Go.WideShapes Go.ChangeAt Go.RowKit Go.Deep
open Go.ChangeMaps (open_string shut_string)
theorem XB:prog.globalNamed "math/bits.deBruijn64tab"=some 1:=by kernel_rfl
theorem ahn:(prog.globals[1]?).map (·.type)=some 306:=by kernel_rfl
theorem ahq(os:Os)(args:Array Value):laidMetH prog Rows.safeUptoRow.laid ((World.doorLaid prog 62 os).forCall (fun _ _=>0) ⟨#[],args,[]⟩).memory:=
 laidMetH_of_parts3 (fuel:=8) (laidMet_of_run' 8 (by kernel_rfl) (by kernel_rfl)) (by kernel_rfl) (by kernel_rfl)
theorem ahy{W:World}(h:laidMetH prog Rows.safeUptoRow.laid W):mZ W/\1<W.heap.size:=by
 rw[MakeChecks.laidMetH_plain _ _ _ (by kernel_rfl)]at h;have t:laidMet prog (("math/bits.deBruijn64tab",Lib.tabData .u8 (Lib.deBruijn64tab.map fun(n:Nat)=>(n:Int)))::Rows.safeUptoRow.laid.drop 2) W:=laidMet.tail h;have u:=Lib.tabIs_of_head XB ahn Tryz.underlying306 Tryz.underlying5 (by kernel_rfl) (by kernel_rfl) t;have v:mZ W:=fun j hj=>by
  have hl:Lib.deBruijn64tab.length=64:=by decide+kernel
  have hj':j<Lib.deBruijn64tab.length:=by omega
  have c:=u.cell XB j (by simpa using hj');rw[c];simp[List.getD,List.getElem?_eq_getElem hj']
 exact⟨v,World.block_lt_of_cell? W _ (v 0 (by omega))⟩
theorem aaI{H:Type}(d:DataW H):1<=Rows.uptoBulk d:=by
 cases d with
 |lit l=>cases l<;>simp[Rows.uptoBulk]
 |_=>simp[Rows.uptoBulk]
theorem Tm{H:Type}:∀l:List (DataW H),l.length<=Rows.uptoBulkAll l
 |[]=>Nat.zero_le _
 |d::l=>by
  have h1:=aaI d;have h2:=Tm l;simp only[Rows.uptoBulkAll,List.length_cons];omega
theorem ah2{H:Type}{enc:TypeId×Value->H}{P:Program}{w:World}{base:Nat}{spare:Nat->Bool}{held:Bool}{t e:TypeId}{fuel:Nat}{ad:Option Addr}{len cap:Nat}{x:DataW H×List MemPlace}(ht:P.underlying t=some (.slice e))(h:DataW.trod enc P w base spare held fuel t [.slice ad len cap]=some x):len<=Rows.uptoBulk x.1:=by
 rcases open_slice ht h with⟨h0,_⟩|⟨a,len',cap',m,n,D,Pl,e1,_,_,_,_,rfl,_⟩
 .simp only[List.cons.injEq,Value.slice.injEq,and_true]at h0;omega
 .simp only[List.cons.injEq,Value.slice.injEq,and_true]at e1;obtain⟨_,rfl,_⟩:=e1;have h2:=Tm ((List.range len).map D);simp only[List.length_map,List.length_range]at h2;simp only[Rows.uptoBulk];omega
theorem ahB{w:World}{ad:Option Addr}{rs:List Hx.Pk}(h:BX w.heap.size w ad rs):Gi w.heap.size w ad (rs.map fun p=>⟨p.seq,p.size,p.on⟩):=fun i o hi=>by
 rw[List.getElem?_map]at hi;cases hr:rs[i]?with
 |none=>rw[hr]at hi;cases hi
 |some r=>
  rw[hr]at hi;cases hi;obtain⟨b,f,e1,e2,b',f',e3,c0,c1,c2⟩:=h i r hr;cases e3;exact⟨b,f,e1,e2,c0,c1,c2⟩
theorem ahv(os:Os){H:Type}(enc:TypeId×Value->H):∃places,DataW.whole enc prog ((World.doorLaid prog 62 os).forCall (fun _ _=>0) ⟨#[],#[.string ByteArray.empty,.string ByteArray.empty,Im 0,Nl],[]⟩).memory Tryz.f9.params.toList Rows.safeSpec.vars false #[Value.string ByteArray.empty,.string ByteArray.empty,Im 0,Nl].toList 8=some ([.lit (.string []),.lit (.string []),.lit (.int .i64 0),.nil],[],places):=
 ⟨[],by kernel_rfl⟩
theorem aht(os:Os)(started:os.Started)(H:Type)(enc:TypeId×Value->H)(F:Stop.Interp):
 ReturnsInHanded {} Tryz.checked os 9 .any ((Rows.OpenSpec.upto Rows.safeSpec).preRow enc prog Tryz.f9 Rows.safeUptoRow.domain false Rows.safeUptoRow.laid) (((Rows.OpenSpec.upto Rows.safeSpec).at F).post enc prog Tryz.f9 false true false false):=by
 obtain⟨places,hx⟩:=ahv os enc;refine returnsInHanded_of_row (C:=Tryz.checked) (s:=Rows.OpenSpec.upto Rows.safeSpec) ace started (by kernel_rfl) func9
  (witness_row_atRef (enc:=enc) (C:=Tryz.checked) false (World.doorLaid prog 62 os) #[.string ByteArray.empty,.string ByteArray.empty,Im 0,Nl] rfl (by kernel_rfl) (by kernel_rfl) (by kernel_rfl)
    (OpenSpec.preRow_of_cond 8 hx (by kernel_rfl) (fun k hk=>by cases hk;kernel_rfl) (by kernel_rfl) (ahq os _))) ?_
 intro W base args ds gs before hval0 hW _ hcond _ hL _ _;have hval:∀(j:Nat) t v,Tryz.f9.params[j]? =some t->args[j]? =some v->Value.okWide prog W .any base t v:=hval0;have abX:=hcond _ rfl;have hW':=hW;obtain⟨p,q,hA0,hV,rfl,hfz,hnd⟩:=hW;have hA:DataW.TrodAll enc prog W 0 (fun _=>true) true Tryz.f9.params.toList args.toList ds p:=hA0;rw[Tryz.params9]at hA hval;obtain⟨v0,QW,d0,ds0,p0,q0,hargs,rfl,rfl,h0,r0⟩:=trodAll_cons hA;obtain⟨v1,vs1,d1,ds1,p1,q1,rfl,rfl,rfl,h1,r1⟩:=trodAll_cons r0;obtain⟨v2,vs2,d2,ds2,p2,q2,rfl,rfl,rfl,h2,r2⟩:=trodAll_cons r1;obtain⟨v3,vs3,d3,ds3,p3,q3,rfl,rfl,rfl,h3,r3⟩:=trodAll_cons r2;obtain⟨rfl,rfl,rfl⟩:=trodAll_nil r3;obtain rfl:args=#[v0,v1,v2,v3]:=by cases args;simp_all
 obtain⟨rfl,rfl⟩:=trodVars_none hV;obtain⟨s,rfl,rfl,rfl,ws⟩:=open_string Tryz.underlying9 (hval 0 9 v0 rfl rfl) h0;obtain⟨s2,rfl,rfl,rfl,ws2⟩:=open_string Tryz.underlying9 (hval 1 9 v1 rfl rfl) h1;obtain⟨fu,rfl,rfl,rfl,wf⟩:=open_int Tryz.underlying3 (hval 2 3 v2 rfl rfl) h2;have k3:=h3;have lt3:∀x∈p3,x.block<W.heap.size:=by obtain⟨m,hm⟩:=k3;exact DataW.trod_lt m _ _ _ hm
 obtain⟨n3,t3⟩:=h3;obtain⟨ad,len,cap,rs,hc3,_,hrl,hpk,hin⟩:=afI Tryz.underlying82 Tryz.underlying87 (by kernel_rfl) (by kernel_rfl) Tryz.underlying3 Tryz.underlying3 Tryz.underlying3 t3;have hv3:v3=.slice ad len cap:=by
  obtain⟨x1,x2,x3,rfl⟩:=okWide_slice Tryz.underlying82 (hval 3 82 v3 rfl rfl);simpa [Value.cells]using hc3
 subst hv3;have t3':DataW.trod enc prog W 0 (fun _=>true) true n3 82 [.slice ad len cap]=some (d3,p3):=t3;have hlen:len<=1048576:=by
  have hb1:len<=Rows.uptoBulk d3:=ah2 Tryz.underlying82 t3';have hb2:Rows.uptoBulkAll ([DataW.lit (H:=H) (.string s.data.toList),.lit (.string s2.data.toList),.lit (.int .i64 fu),d3]++[])<=1048576:=of_decide_eq_true abX;simp only[List.append_nil,Rows.uptoBulkAll]at hb2;omega
 obtain⟨hT,hone⟩:=ahy hL;clear hA0 hval0;have hlm:(rs.map fun p=>(⟨p.seq,p.size,p.on⟩:Gg)).length=len:=by rw[List.length_map];exact hrl
 have key:=aho (w:=W) s s2 fu (KJ wf) ad cap (rs.map fun p=>⟨p.seq,p.size,p.on⟩) (by omega) (ahB hpk) (fun o ho=>by
  obtain⟨r,hr,rfl⟩:=List.mem_map.1 ho;exact hin r hr) hT hone
 rw[hlm]at key;refine key.mono fun e W' ⟨he,bel⟩=>?_;subst he;exact⟨_,rfl,_,_,_,[],_,[],hW',trodAll_mk1 (shut_bool Tryz.underlying4 _),(trodAll_cons_mk (shut_string Tryz.underlying9 ws) (trodAll_cons_mk (shut_string Tryz.underlying9 ws2) (trodAll_cons_mk (shut_int Tryz.underlying3 wf) (trodAll_cons_mk (Below.trod UF (by kernel_rfl) (of_decide_eq_true (by kernel_rfl)) k3 bel lt3) trodAll_mk0)))),rfl,bel.frame _,fun h=>by cases h⟩
theorem ahx:Rows.SafeUptoSaid:=
 OpenClaim.holds_of_cond 9 Tryz.f9 rfl rfl rfl rfl rfl rfl rfl ⟨rfl,rfl,rfl,rfl,rfl⟩ rfl rfl rfl rfl rfl XC func9 ahp
  (of_decide_eq_true (by kernel_rfl)) (by unfold Func.isWrapper;first|(rw[if_pos (by decide+kernel)];kernel_rfl)|(rw[if_neg (by decide+kernel)];exact⟨rfl,rfl⟩))
  (fun os started H enc _ F=>by rw[OpenClaim.pre_eq_preRow];exact aht os started H enc F)
theorem safe_holds : Rows.SafeUptoCardSaid :=
 Claim7.holds_tied_plain_at .later [] [.data,.data,.data,.sentinel,.sentinel] true Rows.safeUptoCard.stood.harness true
  ahx (fun _ h=>by cases h) ahA (fun _ h=>by cases h) safeUpto_row_tie rfl ⟨rfl,rfl⟩ ab7 rfl
  (fun f fn hf hfn=>by
    obtain rfl:f=9:=(Option.some.inj (XC.symm.trans hf)).symm;obtain rfl:fn=Tryz.f9:=(Option.some.inj (func9.symm.trans hfn)).symm;exact⟨ab6,fun j t ht=>by
     rw[Tryz.params9]at ht;have hm:t∈[9,9,3,82]:=by simpa using Array.mem_of_getElem? ht
     have hall:([9,9,3,82].all fun u=>!prog.wantsStandIn u)=true:=by kernel_rfl
     exact(show prog.wantsStandIn t=false by simpa using List.all_eq_true.1 hall t hm)⟩)
  ahr
#print axioms safe_holds
end
end Go.Proofs.YthllhabjfchgiaaGreatDoor
