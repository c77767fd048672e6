import Derived.Test.YthllhabjfchgiaaGreatDoorHb24
set_option maxRecDepth 100000
set_option maxHeartbeats 8000000
set_option linter.unusedSimpArgs false
namespace Go.Proofs.YthllhabjfchgiaaGreatDoor
open _root_.Go.Proofs.Tryz
section
open Go.RowKit Hx
attribute [local go_sem ↓] Go.wp_at_zero Go.wp_at_succ
attribute [local go_sem] kL
section
variable {w w' w2 wy:jo}{C:Nat}{c:Co}{v nv u:jr}
theorem LP(h:kF w C c):Calls prog 306 #[Pt C 0] w λe w'=>e=.returned (Im c.hold.2)/\kF w' C c.hold.1/\Gk w w' C:=by
 obtain⟨v,nv,h⟩:=h;have c2:=jJ 2 h.jL rfl;have fz:=qJ h.jL;have HF:Hid (kF (w.setCell (Ad C 2) (Im (wrap64 (c.free+1)))) C c.hold.1/\Gk w (w.setCell (Ad C 2) (Im (wrap64 (c.free+1)))) C):=⟨⟨v,nv,h.jZ _⟩,Gk.free _ _ _⟩;clear h;unfold Co.hold at *;simp only at HF⊢;go_enter func306,ntmps306;go_wp2_with fail;go_ret;exact⟨rfl,HF.out⟩
theorem LM(h:kF w C c)(into:Int):Calls prog 364 #[Pt C 0,Im into] w λe w'=>e=.returned (Im (c.choose into).2)/\kF w' C (c.choose into).1/\Gk w w' C:=by
 have HH:=jB (LP h);have HG:Hid (kF w C c/\Gk w w C):=⟨h,Gk.refl _ _⟩;clear h;unfold Co.choose;by_cases hi:into= -1
 .rw[jl hi];subst hi;go_enter func364,ntmps364;go_wp2_with fail;refine HH.out.mono ?_;rintro e w1 ⟨rfl,h1,h2⟩;have HF:=jB (jg h1 h2);clear h1 h2;go_wp2_with fail;go_ret;exact⟨rfl,HF.out⟩
 .rw[jk hi];have d:(into== -1)=false:=by simp[hi]
  go_enter func364,ntmps364;go_wp2_with fail;go_ret;exact⟨rfl,HG.out⟩
def Dy(ns:List (jm×Int))(t:jm):Int:=((ns.find? λn=>n.1.data.toList==t.data.toList).map (·.2)).getD (-1)
theorem aqG(ns:List (jm×Int))(t:jm)(i:Nat)(k:jm×Int)(h:ns[i]? =some k):Dy (ns.drop i) t=if k.1.data.toList==t.data.toList then k.2 else Dy (ns.drop (i+1)) t:=by
 obtain⟨hi,he⟩:=List.getElem?_eq_some_iff.1 h;rw[dA hi,he];unfold Dy;rw[fF];cases (k.1.data.toList==t.data.toList)<;>rfl
theorem abd(h:kF w C c)(t:jm)(hn:c.jA.length<=4000000):Calls prog 314 #[Pt C 0,.string t] w λen w'=>en=.returned (Im (c.vW t))/\w.grownBy w' none:=by
 obtain⟨v,nv,h⟩:=h;obtain⟨a,cap,rfl⟩:=Aw h.jA;have hC:=h.lt;have c1:=jJ 1 h.jL rfl;have HR:=jB h.jA;clear h;have HN:Hid (Dy c.jA t=Dy (c.jA.drop 0) t):=rfl;show Calls prog 314 #[Pt C 0,.string t] w λen w'=>en=.returned (Im (Dy c.jA t))/\w.grownBy w' none;generalize hr:Dy c.jA t=r at *;clear hr;generalize c.jA=ns at *;go_enter func314,ntmps314;go_wp2_with fail;go_loopg [12] (ns.length+1) (λgg i wr=>Hid (∃k:Nat,k+gg=ns.length+1/\k<=ns.length/\i=Im k/\r=Dy (ns.drop k) t/\w.grownBy wr none))
 case atStart=>exact⟨0,by omega,bD _,rfl,HN.out,aN _ _⟩
 case round=>
  obtain⟨k,hk1,hk2,rfl,hr,hg⟩:=hrel.out;clear hrel;have HG:Hid (w.grownBy wr none):=hg;by_cases hlt:k<ns.length
  .have d1:decide ((k:Int)<(ns.length:Int))=true:=by simp;omega
   have i0:(0:Int)<=(k:Int):=by omega
   have i1:(k:Int)<(ns.length:Int):=by omega
   have hget:ns[k]? =some ns[k]:=by simp
   obtain⟨e0,e1⟩:=adt ns k _ hget;obtain⟨g,hag,hBg,hgl,hcs⟩:=ad9 HR.out e0;subst hag;have k0:=(HG.out.cell (hcs _ _ e0) (by simp));have k1:=(HG.out.cell (hcs _ _ e1) (by simp));have HD:Hid (r=if ns[k].1.data.toList==t.data.toList then ns[k].2 else Dy (ns.drop (k+1)) t):=by rw[hr];exact aqG ns t k _ hget
   obtain⟨g',hg'⟩:∃g',gk=g'+1:=⟨gk-1,by omega⟩;clear hr hg hget e0 e1 hcs;generalize ns[k]=kn at *;obtain⟨kt,kk⟩:=kn;simp only at k0 k1 HD;cases ht:(kt.data.toList==t.data.toList)with
   |true=>
    have ht2:(kt.toList==t.toList)=true:=by rw[aZ,aZ];exact ht
    have HD2:Hid (r=kk):=by have:=HD.out;rw[ht]at this;exact this
    clear HD;go_wp2_with fail;go_ret;exact⟨by rw[HD2.out];rfl,HG.out.trans (ah _ _ none)⟩
   |false=>
    have ht2:(kt.toList==t.toList)=false:=by rw[aZ,aZ];exact ht
    have HD2:Hid (r=Dy (ns.drop (k+1)) t):=by have:=HD.out;rw[ht]at this;exact this
    clear HD;go_wp2_with fail;go_roundg g'
    case measure=>omega
    case rel=>exact⟨k+1,by omega,by omega,by go_num,HD2.out,HG.out.trans (ah _ _ none)⟩
  .have d1:decide ((k:Int)<(ns.length:Int))=false:=by simp;omega
   have HD:Hid (r= -1):=by rw[hr,fH (by omega)];rfl
   clear hr hg;go_wp2_with fail;go_ret;exact⟨by rw[HD.out];rfl,HG.out⟩
theorem ak7:(prog.info? 448).map (λi=>(i.zero,i.size,i.bytes))=some (some (.agg #[.string ⟨#[]⟩,Im 0]),2,24):=by kernel_rfl
theorem Ue(h:kF w C c)(t:jm)(ta slot:Int)(hn:c.jA.length<=4000000):
 Calls prog 324 #[Pt C 0,.agg #[.string t,Im ta],Im slot] w λen w'=>en=.returned (.tuple #[])/\kF w' C (c.know t slot)/\Gk w w' C:=by
 obtain⟨v,nv,h⟩:=h;obtain⟨a,cap,rfl⟩:=Aw h.jA;have hC:=h.lt;have c1:=jJ 1 h.jL rfl;obtain⟨i0,hi0,hz0,hz1,hz2⟩:=info_parts ak7;have HP:Hid (∀(o o2:Obj)(n:Nat)(w1:jo)(u:jr),(((w.alloc o).alloc o2).drewN n).grownBy w1 (Value.slice a c.jA.length cap).ownBlock->w1.ownsRow (C+1) 448 2 u (c.jA.length+1) (vO c.jA++[.string t,Im slot])->(∀k,u.ownBlock=some k->(Value.slice a c.jA.length cap).ownBlock=some k\/(((w.alloc o).alloc o2).drewN n).heap.size<=k)->
  kF (w1.setCell (Ad C 1) u) C (c.know t slot)/\Gk w (w1.setCell (Ad C 1) u) C/\(∃u,w1.cell? (Ad C 1)=some u)/\w1.frozen? (Ad C 1)=false):=by
  intro o o2 n w1 u hg ho hat;have hgw:=((ah w o none).trans (ah _ o2 none)).trans (lH _ n);have h':=h.grow hgw;have e1:vO (c.jA++[(t,slot)])=vO c.jA++[.string t,Im slot]:=by simp[vO]
  have ho2:w1.ownsRow (C+1) 448 2 u (c.jA++[((t,slot):jm×Int)]).length (vO (c.jA++[(t,slot)])):=by rw[e1];simpa using ho
  have hb1:=(hg.block C h'.lt (λe=>by have:=h'.Ih C e.symm;omega)).trans h'.jL;refine⟨⟨v,u,h'.NK hg ho2 hat⟩,(Gk.grown hgw hC).trans (h'.abj hg hat),⟨.slice a c.jA.length cap,jH hb1⟩,oh hb1⟩
 have HO:Hid (∀(o o2:Obj)(n:Nat),(((w.alloc o).alloc o2).drewN n).ownsRow (C+1) 448 2 (.slice a c.jA.length cap) c.jA.length (vO c.jA)):=λo o2 n=>
  (h.grow (((ah w o none).trans (ah _ o2 none)).trans (lH _ n))).jA
 have hmx:c.jA.length+1<=maxLen:=by unfold maxLen;omega
 have hby:(c.jA.length+1) * 24<=140737488355328:=by omega
 have n1:¬C=w.heap.size:=by omega
 have n2:C<w.heap.size+1:=by omega
 clear h;generalize c.know t slot=ca at *;generalize vO c.jA=cells at *;generalize c.jA.length=len at *;go_enter func324,ntmps324;go_wp2_with fail;go_region_law ((refine step_append_lies _ (by rfl) _ _ _ (by rfl) (C+1) 448 i0 _ 2 24 Tryz.underlying195 hi0 hz0 hz1 hz2 (by rfl) (by omega) (.slice a len cap) len cells (by rfl) (HO.out _ _ 1) (Ad (w.heap.size+1) 0) 1 1 [.string t,Im slot] (by rfl) (by rfl) (fM (cs:=#[.string t,Im slot]) (t:=448) (fr:=(0,0)) (Uu w _ _)) (by simp[Value.oneCell']) (by omega) hmx hby (by simp;omega) (w.heap.size+1+1) (by simp) ?_;intro gg cap1 w3 hown1 hgrow hat hlt;obtain⟨u12,UL⟩:=(HP.out _ _ 1 _ _ hgrow hown1 (Gm hat)).2.2.1;have Ux:=(HP.out _ _ 1 _ _ hgrow hown1 (Gm hat)).2.2.2));all_goals (go_wp2;go_end0;exact⟨rfl,(HP.out _ _ 1 _ _ hgrow hown1 (Gm hat)).1,(HP.out _ _ 1 _ _ hgrow hown1 (Gm hat)).2.1⟩)
def DZ(w:jo)(C:Nat)(u:jr)(ns:List Int):Prop:=(ns=[]/\u=Nl)\/∃b,u=.slice (some (Ad b 0)) ns.length ns.length/\DR w C b (.cells (ns.map (Value.int .i64)).toArray 3)
theorem DZ.gk{ns:List Int}(h:DZ w C u ns)(hl:Gk w w' C):DZ w' C u ns:=by
 rcases h with h|⟨b,h1,h2⟩
 .exact ji h
 .exact jh ⟨b,h1,h2.gk hl⟩
theorem DZ.form{ns:List Int}(h:DZ w C u ns):∃a,u=.slice a ns.length ns.length:=by
 rcases h with⟨rfl,rfl⟩|⟨b,rfl,_⟩
 .exact⟨none,rfl⟩
 .exact⟨_,rfl⟩
theorem DZ.get{ns:List Int}{a:Option Addr}(h:DZ w C (.slice a ns.length ns.length) ns){k:Nat}{x:Int}(hk:ns[k]? =some x):∃b,a=some (Ad b 0)/\w.cell? (Ad b k)=some (Im x):=by
 rcases h with⟨rfl,_⟩|⟨b,e,h2⟩
 .simp at hk
 .cases e;refine⟨b,rfl,(jH h2.at').trans ?_⟩;simp[hk]
structure KO(w wr:jo)(C:Nat)(c:Co)(u:jr)(ns:List Int):Prop where
 co:kF wr C c
 VJ:DZ wr C u ns
 keep:Gk w wr C
theorem al1(c:Co)(o:Int)(ns:List Int)(k:Nat)(x:Int)(h:ns[k]? =some x):(c.lay o (ns.take (k+1))).code=(c.lay o (ns.take k)).code++pK x:=by
 have h1:ns.take (k+1)=ns.take k++[x]:=by rw[fU,h];rfl
 rw[h1];simp[Co.lay]
theorem aa8(h:kF w C c)(o:Int)(ns:List Int)(hu:DZ w C u ns)(hl:ns.length<=100)(hn:c.code.length<=900000000):
 Calls prog 92 #[Pt C 0,.int .u8 o,u] w λe w'=>e=.returned (.tuple #[])/\kF w' C (c.lay o ns)/\Gk w w' C:=by
 obtain⟨v,nv,h⟩:=h;obtain⟨a,rfl⟩:=hu.form;obtain⟨va,vc,rfl⟩:=Aw h.code;obtain⟨i0,hi,hz0,hz1,hz2⟩:=info_parts ab4;have hC:=h.lt;have c0:=jJ 0 h.jL rfl;have HO:=jB (λob=>h.code.alloc ob);have HA:Hid (∀ob w1 g cap,(w.alloc ob).grownBy w1 (Value.slice va c.code.length vc).ownBlock->w1.ownsRow (C+1) 5 1 (.slice (some (Ad g 0)) (c.code.length+1) cap) (c.code.length+1) (uo c.code++[.int .u8 o])->((Value.slice va c.code.length vc).ownBlock=some g\/g=w.heap.size+1)->
  KO w (w1.setCell (Ad C 0) (.slice (some (Ad g 0)) (c.code.length+1) cap)) C (c.lay o (ns.take 0)) (.slice a ns.length ns.length) ns/\w1.cell? (Ad C 0)=some (.slice va c.code.length vc)/\∀j,w1.frozen? (Ad C j)=false):=by
  intro ob w1 g cap hg ho hat;have hgw:=ah w ob none;have h':=h.grow hgw;have hat':∀k,(Value.slice (some (Ad g 0)) (c.code.length+1) cap).ownBlock=some k->(Value.slice va c.code.length vc).ownBlock=some k\/(w.alloc ob).heap.size<=k:=λk hk=>by
   simp only[Value.ownBlock,bJ]at hk;subst hk;exact hat.imp id (λe=>by simp;omega)
  have e1:uo (c.code++[o])=uo c.code++[.int .u8 o]:=by simp[uo]
  have ho2:w1.ownsRow (C+1) 5 1 (.slice (some (Ad g 0)) (c.code.length+1) cap) (c.code++[o]).length (uo (c.code++[o])):=by rw[e1];simpa using ho
  have hk:=(Gk.grown hgw hC).trans (h'.abh hg hat');have hb1:=(hg.block C h'.lt (λe=>by have:=h'.Gy C e.symm;omega)).trans h'.jL;exact⟨⟨⟨_,nv,by simpa [Co.lay]using h'.ae5 hg ho2 hat'⟩,hu.gk hk,hk⟩,jH hb1,λj=>oh hb1⟩
 have n1:¬C=w.heap.size:=by omega
 have HL:Hid (∀k,k<=ns.length->(c.lay o (ns.take k)).code.length<=990000000):=λk hk=>by
  have:=oD c o (ns.take k);have:(ns.take k).length<=ns.length:=by rw[gI];omega
  omega
 have HB:Hid (∀(k:Nat)(x:Int)(wr:jo),ns[k]? =some x->KO w wr C (c.lay o (ns.take k)) (.slice a ns.length ns.length) ns->∃y,wr.cell? (Ad C 0)=some y/\Calls prog 144 #[y,Im x] wr λe w'=>∃g m cap,e=.returned (.slice (some (Ad g 0)) m cap)/\KO w (w'.setCell (Ad C 0) (.slice (some (Ad g 0)) m cap)) C (c.lay o (ns.take (k+1))) (.slice a ns.length ns.length) ns/\(∃y,w'.cell? (Ad C 0)=some y)/\∀j,w'.frozen? (Ad C j)=false):=λk x wr hx hI=>by
  obtain⟨⟨v1,zI,k1⟩,k2,k3⟩:=hI;have hkl:k<ns.length:=(List.getElem?_eq_some_iff.1 hx).1;refine⟨v1,jH k1.jL,(ahv _ _ x k1.code (by have:=k1.lt;omega) (by have:=HL.out k (by omega);omega)).mono ?_⟩;rintro e w' ⟨g,cap,e1,e2,e3,e4⟩;have hat':∀k',(Value.slice (some (Ad g 0)) ((c.lay o (ns.take k)).code.length+(pK x).length) cap).ownBlock=some k'->v1.ownBlock=some k'\/wr.heap.size<=k':=λk' hk'=>by
   simp only[Value.ownBlock,bJ]at hk';subst hk';exact e4
  have e5:uo ((c.lay o (ns.take k)).code++pK x)=uo (c.lay o (ns.take k)).code++uo (pK x):=by simp[uo]
  have ho2:w'.ownsRow (C+1) 5 1 (.slice (some (Ad g 0)) ((c.lay o (ns.take k)).code.length+(pK x).length) cap) ((c.lay o (ns.take k)).code++pK x).length (uo ((c.lay o (ns.take k)).code++pK x)):=by rw[e5,aA];exact e2
  have hk:=k1.abh e3 hat';have hb1:=(e3.block C k1.lt (λe=>by have:=k1.Gy C e.symm;omega)).trans k1.jL;refine⟨g,_,cap,e1,⟨⟨.slice (some (Ad g 0)) ((c.lay o (ns.take k)).code.length+(pK x).length) cap,zI,?_⟩,k2.gk hk,k3.trans hk⟩,⟨v1,jH hb1⟩,λj=>oh hb1⟩;have:=k1.ae5 e3 ho2 hat';rw[<-al1 c o ns k x hx]at this;exact this
 have HZ:Hid (∀wr,KO w wr C (c.lay o (ns.take ns.length)) (.slice a ns.length ns.length) ns->kF wr C (c.lay o ns)/\Gk w wr C):=λwr hI=>by
  have h1:=hI.co;rw[eU (aj _)]at h1;exact⟨h1,hI.keep⟩
 clear h hu;generalize hxs:uo c.code=xs at *;clear hxs;generalize hm:c.code.length=m at *;go_enter func92,ntmps92;go_wp2_with (at_builtin;refine wpList_append_lies _ rfl _ _ 194 rfl (C+1) 5 i0 (.int .u8 0) 1 1 Tryz.underlying194 hi hz0 hz1 hz2 rfl (by decide) (.slice va m vc) m xs rfl (HO.out _) (Ad w.heap.size 0) 1 1 [.int .u8 o] rfl rfl (cell_one_new _ _ _) (by simp[Value.oneCell']) (by decide) (by unfold maxLen;omega) (by omega) (by simp;omega) (w.heap.size+1) (by simp) ?_;intro g cap w2 hown hgr hat hlt;have e1:=(HA.out _ _ _ _ hgr hown hat).2.1;have e2:=(HA.out _ _ _ _ hgr hown hat).2.2);have HQ:=jB ((HA.out _ _ _ _ hgr hown hat).1);clear hown hgr hat e1 e2 HA HO;generalize w2.setCell (Ad C 0) (.slice (some (Ad g 0)) (m+1) cap)=w3 at *;go_loopg [20] (ns.length+1) (λgg i wr=>Hid (∃k:Nat,k+gg=ns.length+1/\k<=ns.length/\i=Im k/\KO w wr C (c.lay o (ns.take k)) (.slice a ns.length ns.length) ns))
 case atStart=>exact⟨0,by omega,bD _,rfl,HQ.out⟩
 case round=>
  obtain⟨k,hk1,hk2,rfl,hI⟩:=hrel.out;clear hrel HQ;by_cases hkl:k<ns.length
  .have d1:decide ((k:Int)<(ns.length:Int))=true:=by simp;omega
   have i1:(0:Int)<=(k:Int):=by omega
   have i2:(k:Int)<(ns.length:Int):=by omega
   have hget:ns[k]? =some ns[k]:=by simp
   obtain⟨b,hab,kc⟩:=hI.VJ.get hget;subst hab;obtain⟨y,hy,NZ⟩:=HB.out k _ wr hget hI;have NZ:=jB NZ;obtain⟨g',hg'⟩:∃g',gk=g'+1:=⟨gk-1,by omega⟩;clear hI hget;generalize ns[k]=x at *;go_wp2_with fail;refine NZ.out.mono ?_;rintro e w4 ⟨g4,m4,cap4,rfl,hI4,⟨y4,hy4⟩,fz⟩;have HI4:=jB hI4;clear hI4 NZ;go_wp2_with fail;go_roundg g'
   case measure=>omega
   case rel=>exact⟨k+1,by omega,by omega,by go_num,HI4.out⟩
  .have d1:decide ((k:Int)<(ns.length:Int))=false:=by simp;omega
   have hke:k=ns.length:=by omega
   have HE:=jB (HZ.out wr (by rw[hke]at hI;exact hI));clear hI hke;go_wp2_with fail;go_end0;exact⟨rfl,HE.out⟩
end
section
variable {w w' w1 w2:jo}{C lo hi b:Nat}{c:Co}{u:jr}{e l r:Ex}{a:Int}{T:jv}
structure Room(c:Co)(k:Int):Prop where
 jy:k<=1000000
 code:(c.code.length:Int)+200 * k<=800000000
 jA:(c.jA.length:Int)+k<=3000000
structure IK(e:Ex):Prop where
 law:∀a,Lawful (e.here a)
 head:∀a w lo hi v,e.here a w lo hi v->∃T b,v=.iface T (Pt b 0)/\lM T/\lo<=b/\b<hi/\w.cell? (Ad b 0)=some (Im a)/\w.cell? (Ad b 1)=some (Im e.jy)/\∀j,w.frozen? (Ad b j)=false
 jy:0<=e.jy/\e.jy<=1000001
theorem kV.base{e:Ex}(h:kV e):IK e:=⟨h.law,h.head,h.jy⟩
def uX(T' T:jv)(at' jy kind:Int)(K:Hx.Kids)(mk:List jr->List jr)(dn:Dn:={}):Ex:=
 ⟨at',jy,λa w lo hi v=>∃b us,v=.iface T' (Pt b 0)/\lo<=b/\b<hi/\K w lo hi us/\w.heap[b]? =some (.cells (Im a::Im jy::Im kind::mk us).toArray T),dn⟩
theorem JL{T' T:jv}{at' jy kind:Int}{K:Hx.Kids}{mk:List jr->List jr}{dn:Dn}(hT:lM T')(hK:yI K)(hc:0<=jy/\jy<=1000001):IK (uX T' T at' jy kind K mk dn):=by
 refine⟨λa=>⟨?_,?_⟩,?_,hc⟩
 .rintro w w' lo hi v ⟨b,us,hv,h1,h2,h3,h4⟩ hk;exact⟨b,us,hv,h1,h2,hK.loc _ _ _ _ _ h3 hk,(hk b h1 h2).trans h4⟩
 .rintro w lo hi lo' hi' v ⟨b,us,hv,h1,h2,h3,h4⟩ l1 l2;exact⟨b,us,hv,by omega,by omega,hK.wide _ _ _ _ _ _ h3 l1 l2,h4⟩
 .rintro a w lo hi v ⟨b,us,hv,h1,h2,h3,h4⟩;exact⟨T',b,hv,hT,h1,h2,jH h4,jH h4,λj=>oh h4⟩
theorem JQ{T' T:jv}{at' jy kind:Int}{K K':Hx.Kids}{mk:List jr->List jr}{dn dn':Dn}{v:jr}(hK:∀w lo b hi us,K w lo b us->b<=hi->K' w lo hi us)(h:(qZ T' T at' jy kind K mk dn).here a w lo hi v):(uX T' T at' jy kind K' mk dn').here a w lo hi v:=by
 obtain⟨b,us,hv,h1,h2,h3,h4⟩:=h;exact⟨b,us,hv,h1,h2,hK _ _ _ _ _ h3 (by omega),h4⟩
def Ai(E F:Hx.sJ):Hx.Kids:=λw lo hi us=>∃u v,us=[u,v]/\E w lo hi u/\F w lo hi v
theorem P6{E F:Hx.sJ}(h:Lawful E)(k:Lawful F):yI (Ai E F):=
 ⟨λ_ _ _ _ _ ⟨u,v,e,hu,hv⟩ hk=>⟨u,v,e,h.loc _ _ _ _ _ hu hk,k.loc _ _ _ _ _ hv hk⟩,λ_ _ _ _ _ _ ⟨u,v,e,hu,hv⟩ l1 l2=>⟨u,v,e,h.wide _ _ _ _ _ _ hu l1 l2,k.wide _ _ _ _ _ _ hv l1 l2⟩⟩
theorem PY{E:Hx.sJ}(h:Lawful E)(w:jo)(lo b hi:Nat)(us:List jr)(k:nX E w lo b us)(hb:b<=hi):nX E w lo hi us:=(qO h).wide _ _ _ _ _ _ k (aj _) hb
theorem acv{E F:Hx.sJ}(h:Lawful E)(k:Lawful F)(w:jo)(lo b hi:Nat)(us:List jr)(hk:xH E F w lo b us)(hb:b<=hi):Ai E F w lo hi us:=by
 obtain⟨m,u,v,e,h1,h2,hu,hv⟩:=hk;exact⟨u,v,e,h.wide _ _ _ _ _ _ hu (aj _) (by omega),k.wide _ _ _ _ _ _ hv h1 hb⟩
structure kE(e:Ex):Prop where
 ok:IK e
 jA:∀c into,(e.does.give c into).1.jA=c.jA
 len:∀c into,e.jy<=1000000->((e.does.give c into).1.code.length:Int)<=c.code.length+200 * e.jy+50
 give:∀a w lo hi T b C c into,e.here a w lo hi (.iface T (Pt b 0))->hi<=C->kF w C c->Room c e.jy->
  ∃f,(∀w,(method 576 T (Pt b 0) "helm/lang.give").run prog w=.ok (f,Pt b 0) w)/\Enters f/\
   Calls prog f #[Pt b 0,Pt C 0,Im into] w λen w'=>en=.returned (Im (e.does.give c into).2)/\kF w' C (e.does.give c into).1/\Gk w w' C
theorem kE.of{e e':Ex}(h:kE e')(ok:IK e)(hh:∀a w lo hi v,e.here a w lo hi v->e'.here a w lo hi v)(hc:e.jy=e'.jy)(hd:e.does.give=e'.does.give):kE e:=
 ⟨ok,λc into=>by rw[hd];exact h.jA c into,λc into hk=>by rw[hd,hc];exact h.len c into (by rw[<-hc];exact hk),λa w lo hi T b C c into hv hC hg hr=>by rw[hd];exact h.give a w lo hi T b C c into (hh _ _ _ _ _ hv) hC hg (by rw[<-hc];exact hr)⟩
theorem Je(c:Co)(into:Int):(c.choose into).1.jA=c.jA:=by unfold Co.choose;split<;>rfl
theorem CV(c:Co)(into:Int):(c.choose into).1.code=c.code:=by unfold Co.choose;split<;>rfl
theorem Ia(c:Co)(o:Int)(ns:List Int):(c.lay o ns).jA=c.jA:=rfl
theorem Q5(c:Co)(f:Int):(c.jZ f).jA=c.jA:=rfl
theorem EM(c:Co)(f:Int):(c.jZ f).code=c.code:=rfl
theorem FU(h:kF w C c)(o:Int)(hn:c.code.length<=900000000):Calls prog 92 #[Pt C 0,.int .u8 o,Nl] w λe w'=>e=.returned (.tuple #[])/\kF w' C (c.lay o [])/\Gk w w' C:=
 aa8 h o [] (ji ⟨rfl,rfl⟩) (by simp) hn
theorem Ph(h:kF w C c)(o:Int)(ns:List Int)(hl:ns.length<=100)(hn:c.code.length<=900000000):Calls prog 92 #[Pt C 0,.int .u8 o,.slice (some (Ad w.heap.size 0)) ns.length ns.length] (w.alloc (.cells (ns.map (Value.int .i64)).toArray 3)) λe w'=>e=.returned (.tuple #[])/\kF w' C (c.lay o ns)/\Gk w w' C:=by
 have g:=ah w (.cells (ns.map (Value.int .i64)).toArray 3) none;refine(aa8 (h.grow g) o ns (jh ⟨w.heap.size,rfl,DR.new h _⟩) hl hn).mono ?_;rintro e w' ⟨h1,h2,h3⟩;exact⟨h1,h2,(Gk.grown g h.lt).trans h3⟩
theorem aa9(h:kF w C c)(o n1:Int)(hn:c.code.length<=900000000):Calls prog 92 #[Pt C 0,.int .u8 o,.slice (some (Ad w.heap.size 0)) 1 1] (w.alloc (.cells #[Im n1] 3)) λe w'=>e=.returned (.tuple #[])/\kF w' C (c.lay o [n1])/\Gk w w' C:=Ph h o [n1] (by simp) hn
theorem Aa(h:kF w C c)(o n1 n2:Int)(hn:c.code.length<=900000000):Calls prog 92 #[Pt C 0,.int .u8 o,.slice (some (Ad w.heap.size 0)) 2 2] (w.alloc (.cells #[Im n1,Im n2] 3)) λe w'=>e=.returned (.tuple #[])/\kF w' C (c.lay o [n1,n2])/\Gk w w' C:=Ph h o [n1,n2] (by simp) hn
theorem Pg(h:kF w C c)(o n1 n2 n3:Int)(hn:c.code.length<=900000000):Calls prog 92 #[Pt C 0,.int .u8 o,.slice (some (Ad w.heap.size 0)) 3 3] (w.alloc (.cells #[Im n1,Im n2,Im n3] 3)) λe w'=>e=.returned (.tuple #[])/\kF w' C (c.lay o [n1,n2,n3])/\Gk w w' C:=Ph h o [n1,n2,n3] (by simp) hn
theorem ajJ(h:kF w C c)(o n1 n2 n3 n4:Int)(hn:c.code.length<=900000000):Calls prog 92 #[Pt C 0,.int .u8 o,.slice (some (Ad w.heap.size 0)) 4 4] (w.alloc (.cells #[Im n1,Im n2,Im n3,Im n4] 3)) λe w'=>e=.returned (.tuple #[])/\kF w' C (c.lay o [n1,n2,n3,n4])/\Gk w w' C:=Ph h o [n1,n2,n3,n4] (by simp) hn
theorem adA(a0 n jy kind:Int)(hc0:0<=jy/\jy<=1000001)(dn:Dn)(hd:dn.give=wH n):kE (uX 405 407 a0 jy kind yY (λ_=>[Im n]) dn):=by
 refine⟨JL (by simp[lM]) BM hc0,λc into=>by show(dn.give c into).1.jA=_;rw[hd];exact Je c into,λc into _=>?_,?_⟩
 .show((dn.give c into).1.code.length:Int)<=c.code.length+200 * jy+50;rw[hd];show((((c.choose into).1.lay 6 [(c.choose into).2,n]).code.length:Nat):Int)<=c.code.length+200 * jy+50;have h1:=oD (c.choose into).1 6 [(c.choose into).2,n];rw[CV]at h1;simp only[aF,bg]at h1;omega
 rintro a w lo hi T b C c into ⟨b',us,hv,h1,h2,h3,hb⟩ hC hc hr;cases hv;have c3:=jJ 3 hb rfl;refine⟨389,λw=>by kernel_rfl,λargs w=>by kernel_rfl,?_⟩;show Calls prog 389 #[Pt b 0,Pt C 0,Im into] w λen w'=>en=.returned (Im (dn.give c into).2)/\kF w' C (dn.give c into).1/\Gk w w' C;rw[hd];show Calls prog 389 #[Pt b 0,Pt C 0,Im into] w λen w'=>en=.returned (Im (c.choose into).2)/\kF w' C ((c.choose into).1.lay 6 [(c.choose into).2,n])/\Gk w w' C;have HC:=jB (LM hc into);have hl:(c.choose into).1.code.length<=900000000:=by rw[CV];have h1:(c.code.length:Int)+200 * jy<=800000000:=hr.code;omega
 clear hb hc hr;generalize c.choose into=k at *;obtain⟨k1,k2⟩:=k;simp only at HC hl⊢;go_enter func389,ntmps389;go_wp2_with fail;refine HC.out.mono ?_;rintro e w1 ⟨rfl,p1,q1⟩;have d3:=(q1.cell (by omega)).trans c3;have HL:=jB (Aa p1 6 k2 n hl);have HK:=jB q1;clear p1 q1 HC;go_wp2_with fail;refine HL.out.mono ?_;rintro e w3 ⟨rfl,p3,q3⟩;have HF:=jB (jg p3 (HK.out.trans q3));clear p3 q3 HL;go_wp2_with fail;go_ret;exact⟨rfl,HF.out⟩
theorem adB(a0 n:Int):kE (BN a0 n):=(adA a0 n 1 1 (by omega) (adz n) rfl).of (VI a0 n).base (λ_ _ _ _ _ h=>JQ (λ_ _ _ _ _ h _=>h) h) rfl rfl
theorem af9(a0 jy kind:Int)(t:Bool)(hok:0<=jy/\jy<=1000001)(dn:Dn)(hd:dn.give=ES t):kE (uX 392 394 a0 jy kind yY (λ_=>[.bool t]) dn):=by
 have hc0:=hok.1;refine⟨JL (by simp[lM]) BM hok,λc into=>by show(dn.give c into).1.jA=_;rw[hd];exact Je c into,λc into _=>?_,?_⟩
 .show((dn.give c into).1.code.length:Int)<=c.code.length+200 * jy+50;rw[hd];show((((c.choose into).1.lay 6 [(c.choose into).2,if t then 1 else 0]).code.length:Nat):Int)<=c.code.length+200 * jy+50;have h1:=oD (c.choose into).1 6 [(c.choose into).2,if t then 1 else 0];rw[CV]at h1;simp only[aF,bg]at h1;omega
 rintro a w lo hi T b C c into ⟨b',us,hv,h1,h2,h3,hb⟩ hC hc hr;cases hv;have c3:=jJ 3 hb rfl;refine⟨380,λw=>by kernel_rfl,λargs w=>by kernel_rfl,?_⟩;show Calls prog 380 #[Pt b 0,Pt C 0,Im into] w λen w'=>en=.returned (Im (dn.give c into).2)/\kF w' C (dn.give c into).1/\Gk w w' C;rw[hd];show Calls prog 380 #[Pt b 0,Pt C 0,Im into] w λen w'=>en=.returned (Im (c.choose into).2)/\kF w' C ((c.choose into).1.lay 6 [(c.choose into).2,if t then 1 else 0])/\Gk w w' C;have HC:=jB (LM hc into);have hr':(c.code.length:Int)+200 * jy<=800000000:=hr.code;have hl:(c.choose into).1.code.length<=900000000:=by
  rw[CV];omega
 have HT:Hid (∀x,Calls prog 152 #[.bool t] x λe w'=>e=.returned (Im (if t then 1 else 0))/\w'=x):=λx=>J6 t x;clear hb hc hr hr';generalize c.choose into=k at *;generalize (if t then (1:Int)else 0)=n at *;obtain⟨k1,k2⟩:=k;simp only at HC hl⊢;go_enter func380,ntmps380;go_wp2_with fail;refine HC.out.mono ?_;rintro e w1 ⟨rfl,p1,q1⟩;have d3:=(q1.cell (by omega)).trans c3;have HL:=jB (Aa p1 6 k2 n hl);have HK:=jB q1;clear p1 q1 HC;go_wp2_with fail;refine(HT.out _).mono ?_;rintro e w2 ⟨rfl,rfl⟩;go_wp2_with fail;refine HL.out.mono ?_;rintro e w3 ⟨rfl,p3,q3⟩;have HF:=jB (jg p3 (HK.out.trans q3));clear p3 q3 HL;go_wp2_with fail;go_ret;exact⟨rfl,HF.out⟩
theorem WY{a0 jy kind:Int}{t:Bool}(hok:kV (zO a0 jy kind t)):kE (zO a0 jy kind t):=(af9 a0 jy kind t hok.jy (af8 kind t) rfl).of hok.base (λ_ _ _ _ _ h=>JQ (λ_ _ _ _ _ h _=>h) h) rfl rfl
theorem arq(a:Int)(b:Bool):kE (zO a 1 2 b):=WY (RD a 2 b)
theorem adu:kE qR:=WY Gj
theorem aeJ(a0 i:Int):kE (Dv a0 i):=by
 refine⟨(Ws a0 i).base,λc into=>rfl,λc into _=>?_,?_⟩
 .show((c.code.length:Nat):Int)<=c.code.length+200 * 1+50;omega
 rintro a w lo hi T b C c into ⟨b',us,hv,h1,h2,h3,hb⟩ hC hc hr;cases hv;have c3:=jJ 3 hb rfl;refine⟨374,λw=>by kernel_rfl,λargs w=>by kernel_rfl,?_⟩;have HF:Hid (kF w C c/\Gk w w C):=⟨hc,Gk.refl _ _⟩;clear hb hc hr;go_enter func374,ntmps374;go_wp2_with fail;go_ret;exact⟨rfl,HF.out⟩
theorem agp(a0:Int)(t:Wd):kE (y8 a0 t):=by
 obtain⟨tt,ta⟩:=t;refine⟨(YF a0 _).base,λc into=>rfl,λc into _=>?_,?_⟩
 .show((c.code.length:Nat):Int)<=c.code.length+200 * 1+50;omega
 rintro a w lo hi T b C c into ⟨k,b',us,hv,h1,h2,h3,hb⟩ hC hc hr;cases hv;have c3:=jJ 3 hb rfl;refine⟨377,λw=>by kernel_rfl,λargs w=>by kernel_rfl,?_⟩;have HS:=jB (abd hc tt (by have:=hr.jA;have:(y8 a0 ⟨tt,ta⟩).jy=1:=rfl;omega));have HI:=jB hc;clear hb hc hr;go_enter func377,ntmps377;go_wp2_with fail;refine HS.out.mono ?_;rintro e w1 ⟨rfl,g1⟩;have HF:=jB (jg (HI.out.grow g1) (Gk.grown g1 HI.out.lt));clear g1;go_wp2_with fail;go_ret;exact⟨rfl,HF.out⟩
theorem agx{e:Ex}(h:kE e)(a:Int):kE (e.widen a):=⟨⟨h.ok.law,h.ok.head,h.ok.jy⟩,h.jA,h.len,h.give⟩
theorem Room.less{k m:Int}(h:Room c m)(hk:k<=m):Room c k:=⟨by have:=h.jy;omega,by have:=h.code;omega,by have:=h.jA;omega⟩
theorem kE.Lr(h:kE e)(hr:Room c e.jy)(into:Int):(e.does.give c into).1.code.length<=850000000:=by
 have h1:=h.len c into hr.jy;have h2:=hr.code;omega
theorem ajK(he:kE e)(hh:e.here e.at' w lo hi u)(hC:hi<=C)(hc:kF w C c)(hr:Room c e.jy)(o into:Int):
 Calls prog 368 #[Pt C 0,.int .u8 o,Im into,u] w λen w'=>en=.returned (Im (c.one o into e.does).2)/\kF w' C (c.one o into e.does).1/\Gk w w' C:=by
 obtain⟨T1,b1,rfl,_⟩:=he.ok.head _ _ _ _ _ hh;obtain⟨f1,m1,kK,H1⟩:=he.give _ _ _ _ _ _ C c (-1) hh hC hc hr;have kK:∀args w,(callFunc f1 args).run prog w=.ok (.enter f1 args) w:=kK;have H1:Hid (Calls prog f1 #[Pt b1 0,Pt C 0,Im (-1)] w λen w'=>en=.returned (Im (e.does.give c (-1)).2)/\kF w' C (e.does.give c (-1)).1/\Gk w w' C):=H1;have hl:=he.Lr hr (-1);obtain⟨v0,JU,h0⟩:=hc;have c2:=jJ 2 h0.jL rfl;clear h0 hh hr;unfold Co.one;generalize e.does.give c (-1)=r at *;obtain⟨rc,rs⟩:=r;simp only at H1 hl⊢;generalize hfr:c.free=fr at *;have hl2:((rc.jZ fr).choose into).1.code.length<=900000000:=by rw[CV,EM];omega
 generalize hk:(rc.jZ fr).choose into=k at *;have Kz:=jB hk;clear hk;go_enter func368,ntmps368;go_wp2_with fail;refine H1.out.mono ?_;rintro e1 w1 ⟨rfl,⟨v1,zI,p1⟩,q1⟩;have d2:=jJ 2 p1.jL rfl;have fz:=qJ p1.jL;have HC:Hid (Calls prog 364 #[Pt C 0,Im into] (w1.setCell (Ad C 2) (Im fr)) λe w'=>e=.returned (Im k.2)/\kF w' C k.1/\Gk (w1.setCell (Ad C 2) (Im fr)) w' C):=by
  have:=LM ⟨v1,zI,p1.jZ fr⟩ into;rw[Kz.out]at this;exact this
 have lZ:Hid (Gk w (w1.setCell (Ad C 2) (Im fr)) C):=q1.trans (Gk.free _ _ _);clear p1 q1 H1;obtain⟨k1,k2⟩:=k;simp only at HC hl2⊢;go_wp2_with fail;refine HC.out.mono ?_;rintro e2 w2 ⟨rfl,p2,q2⟩;have HL:=jB (Aa p2 o k2 rs hl2);have lK:=jB (lZ.out.trans q2);clear p2 q2 HC lZ d2 fz;go_wp2_with fail;refine HL.out.mono ?_;rintro e3 w3 ⟨rfl,p3,q3⟩;have HF:=jB (jg p3 (lK.out.trans q3));clear p3 q3 HL;go_wp2_with fail;go_ret;exact⟨rfl,HF.out⟩
theorem anY(he:kE e)(o into:Int):(c.one o into e.does).1.jA=c.jA:=by
 unfold Co.one;simp only[Ia,Je,Q5,he.jA]
theorem anU(he:kE e)(o into:Int)(hk:e.jy<=1000000):((c.one o into e.does).1.code.length:Int)<=c.code.length+200 * e.jy+50+21:=by
 unfold Co.one;simp only;have h1:=oD (((e.does.give c (-1)).1.jZ c.free).choose into).1 o [(((e.does.give c (-1)).1.jZ c.free).choose into).2,(e.does.give c (-1)).2];rw[CV,EM]at h1;have h2:=he.len c (-1) hk;simp only[aF,bg]at h1;omega
theorem abf(hl:kE l)(hr:kE r){m hi':Nat}{v:jr}(hu:l.here l.at' w lo m u)(hv:r.here r.at' w hi' hi v)(hm:m<=C)(hC:hi<=C)(hc:kF w C c)(hro:Room c (l.jy+r.jy+1))(o into:Int):
 Calls prog 361 #[Pt C 0,.int .u8 o,Im into,u,v] w λen w'=>en=.returned (Im (c.two o into l.does r.does).2)/\kF w' C (c.two o into l.does r.does).1/\Gk w w' C:=by
 have lc:=hl.ok.jy;have rc:=hr.ok.jy;obtain⟨T1,b1,rfl,_⟩:=hl.ok.head _ _ _ _ _ hu;obtain⟨T2,b2,rfl,_⟩:=hr.ok.head _ _ _ _ _ hv;obtain⟨f1,m1,kK,H1⟩:=hl.give _ _ _ _ _ _ C c (-1) hu hm hc (hro.less (by omega));have kK:∀args w,(callFunc f1 args).run prog w=.ok (.enter f1 args) w:=kK;have H1:Hid (Calls prog f1 #[Pt b1 0,Pt C 0,Im (-1)] w λen w'=>en=.returned (Im (l.does.give c (-1)).2)/\kF w' C (l.does.give c (-1)).1/\Gk w w' C):=H1;have hl1:=hl.len c (-1) (by have:=hro.jy;omega);have hn1:=hl.jA c (-1);have HR:Hid (kE r/\r.here r.at' w hi' hi (.iface T2 (Pt b2 0))/\Room (l.does.give c (-1)).1 r.jy):=⟨hr,hv,⟨by have:=hro.jy;omega,by have:=hro.code;omega,by have:=hro.jA;rw[hn1];omega⟩⟩;have hl2:=hr.Lr HR.out.2.2 (-1);obtain⟨v0,JU,h0⟩:=hc;have c2:=jJ 2 h0.jL rfl;clear h0 hu hv hro hl1 hn1 hr hl;unfold Co.two;generalize l.does.give c (-1)=x at *;obtain⟨xc,xs⟩:=x;simp only at H1 HR hl2⊢;generalize hy:r.does.give xc (-1)=y at *;have HY:=jB hy;clear hy;obtain⟨yc,ys⟩:=y;simp only at hl2⊢;generalize hfr:c.free=fr at *;have hl3:((yc.jZ fr).choose into).1.code.length<=900000000:=by rw[CV,EM];omega
 generalize hk:(yc.jZ fr).choose into=k at *;have Kz:=jB hk;clear hk;go_enter func361,ntmps361;go_wp2_with fail;refine H1.out.mono ?_;rintro e1 w1 ⟨rfl,p1,q1⟩;obtain⟨f2,m2,qg,H2⟩:=HR.out.1.give _ _ _ _ _ _ C xc (-1) ((HR.out.1.ok.law _).gk HR.out.2.1 q1 hC) hC p1 HR.out.2.2;have qg:∀args w,(callFunc f2 args).run prog w=.ok (.enter f2 args) w:=qg;rw[HY.out]at H2;have H2:Hid (Calls prog f2 #[Pt b2 0,Pt C 0,Im (-1)] w1 λen w'=>en=.returned (Im ys)/\kF w' C yc/\Gk w1 w' C):=H2;have lZ:=jB q1;clear p1 q1 H1;go_wp2_with fail;refine H2.out.mono ?_;rintro e2 w2 ⟨rfl,⟨v2,nv2,p2⟩,q2⟩;have d2:=jJ 2 p2.jL rfl;have fz:=qJ p2.jL;have HC:Hid (Calls prog 364 #[Pt C 0,Im into] (w2.setCell (Ad C 2) (Im fr)) λe w'=>e=.returned (Im k.2)/\kF w' C k.1/\Gk (w2.setCell (Ad C 2) (Im fr)) w' C):=by
  have:=LM ⟨v2,nv2,p2.jZ fr⟩ into;rw[Kz.out]at this;exact this
 have lK:Hid (Gk w (w2.setCell (Ad C 2) (Im fr)) C):=(lZ.out.trans q2).trans (Gk.free _ _ _);clear p2 q2 H2 lZ;obtain⟨k1,k2⟩:=k;simp only at HC hl3⊢;go_wp2_with fail;refine HC.out.mono ?_;rintro e3 w3 ⟨rfl,p3,q3⟩;have HL:=jB (Pg p3 o k2 xs ys hl3);have qm:=jB (lK.out.trans q3);clear p3 q3 HC lK d2 fz;go_wp2_with fail;refine HL.out.mono ?_;rintro e4 w4 ⟨rfl,p4,q4⟩;have HF:=jB (jg p4 (qm.out.trans q4));clear p4 q4 HL;go_wp2_with fail;go_ret;exact⟨rfl,HF.out⟩
theorem agk(hl:kE l)(hr:kE r)(o into:Int):(c.two o into l.does r.does).1.jA=c.jA:=by
 unfold Co.two;simp only[Ia,Je,Q5,hl.jA,hr.jA]
theorem agj(hl:kE l)(hr:kE r)(o into:Int)(hk:l.jy<=1000000)(hk2:r.jy<=1000000):((c.two o into l.does r.does).1.code.length:Int)<=c.code.length+200 * (l.jy+r.jy)+100+31:=by
 unfold Co.two;simp only;have h1:=oD (((r.does.give (l.does.give c (-1)).1 (-1)).1.jZ c.free).choose into).1 o [(((r.does.give (l.does.give c (-1)).1 (-1)).1.jZ c.free).choose into).2,(l.does.give c (-1)).2,(r.does.give (l.does.give c (-1)).1 (-1)).2];rw[CV,EM]at h1;have h2:=hl.len c (-1) hk;have h3:=hr.len (l.does.give c (-1)).1 (-1) hk2;simp only[aF,bg]at h1;omega
theorem yA{k:Int}(h0:0<=k)(hk:k<=1000001)(h:jS [k]<=1000000):jS [k]=1+k:=by
 have h1:=(xQ [k] (by simp;omega)).1;unfold jS at h⊢;have h2:=Gv (a:=1) h1 h;rw[h2,WW (by omega)]
theorem zJ{k m:Int}(h0:0<=k)(hk:k<=1000001)(g0:0<=m)(hm:m<=1000001)(h:jS [k,m]<=1000000):jS [k,m]=1+(k+m):=by
 have h1:=(xQ [k,m] (by simp;omega)).1;unfold jS at h⊢;have h2:=Gv (a:=1) h1 h;rw[h2,Gv g0 (by omega)]
theorem PZ{T' T:jv}{at' kind k:Int}{mk:List jr->List jr}{dn:Dn}(o:Int)(f:FuncId)(he:kE e)(hT:lM T')(hk0:0<=k/\k<=1000001)(hke:k<=1000000->e.jy+1<=k)(hd:∀c into,dn.give c into=c.one o into e.does)
 (hm:∀b w,(method 576 T' (Pt b 0) "helm/lang.give").run prog w=.ok (f,Pt b 0) w)(hfe:Enters f)
 (hf:∀(a:Int)(b C:Nat)(w:jo)(T1:jv)(b1:Nat)(into s:Int)(P:jo->Prop),w.heap[b]? =some (.cells (Im a::Im k::Im kind::mk [.iface T1 (Pt b1 0)]).toArray T)->
   (∀n,Calls prog 368 #[Pt C 0,.int .u8 o,Im into,.iface T1 (Pt b1 0)] (w.drewN n) λen w'=>en=.returned (Im s)/\P w')->
   Calls prog f #[Pt b 0,Pt C 0,Im into] w λen w'=>en=.returned (Im s)/\P w'):
 kE (uX T' T at' k kind (nX (e.here e.at')) mk dn):=by
 have ec:=he.ok.jy;refine⟨JL hT (qO (he.ok.law _)) hk0,λc into=>?_,λc into hk=>?_,?_⟩
 .show(dn.give c into).1.jA=c.jA;rw[hd];exact anY he o into
 .show((dn.give c into).1.code.length:Int)<=c.code.length+200 * k+50;have hk:=hk;have h1:=hke hk;rw[hd];have h2:=anU (c:=c) he o into (by omega);omega
 rintro a w lo hi T1 b C c into ⟨b',us,hv,h1,h2,⟨u,rfl,hu⟩,hb⟩ hC hc hr;cases hv;obtain⟨T1,b1,rfl,_⟩:=he.ok.head _ _ _ _ _ hu;refine⟨f,hm b,hfe,?_⟩;have hk:=hr.jy;have hp:=hke hk;have hr:Room c k:=hr;show Calls prog f #[Pt b 0,Pt C 0,Im into] w λen w'=>en=.returned (Im (dn.give c into).2)/\kF w' C (dn.give c into).1/\Gk w w' C;rw[hd];refine hf a b C w T1 b1 into _ (λw'=>kF w' C (c.one o into e.does).1/\Gk w w' C) hb (λn=>?_);have g:=lH w n;refine(ajK he ((he.ok.law _).gk hu (Gk.grown g hc.lt) (by omega)) (by omega) (hc.grow g) (hr.less (by omega)) o into).mono ?_;rintro en w' ⟨e1,e2,e3⟩;exact⟨e1,e2,(Gk.grown g hc.lt).trans e3⟩
theorem U8{T' T:jv}{at' kind:Int}{mk:List jr->List jr}{dn:Dn}(he:kE e)(hok:IK (qZ T' T at' (jS [e.jy]) kind (nX (e.here e.at')) mk dn))(h:0<=jS [e.jy]/\jS [e.jy]<=1000001->(jS [e.jy]<=1000000->e.jy+1<=jS [e.jy])->kE (uX T' T at' (jS [e.jy]) kind (nX (e.here e.at')) mk dn)):kE (qZ T' T at' (jS [e.jy]) kind (nX (e.here e.at')) mk dn):=
 (h (pW he.ok.jy) (λhk=>by rw[yA he.ok.jy.1 he.ok.jy.2 hk];omega)).of hok (λ_ _ _ _ _ h=>JQ (PY (he.ok.law _)) h) rfl rfl
theorem aci(he:kE e)(a0:Int)(k:Int)(hk0:0<=k/\k<=1000001)(hke:k<=1000000->e.jy+1<=k)(dn:Dn)(hd:∀c into,dn.give c into=c.one 27 into e.does):kE (uX 395 397 a0 k 2 (nX (e.here e.at')) (λus=>us) dn):=by
 refine PZ 27 383 he (by simp[lM]) hk0 hke hd (λb w=>by kernel_rfl) (λargs w=>by kernel_rfl) ?_;intro a b C w T1 b1 into s P hb H1;have c3:=jJ 3 hb rfl;have H1:=jB (H1 0);clear hb;go_enter func383,ntmps383;go_wp2_with fail;refine H1.out.mono ?_;rintro e1 w1 ⟨rfl,p1⟩;have HP:Hid (P w1):=p1;clear p1 H1;go_wp2_with fail;go_ret;exact⟨rfl,HP.out⟩
theorem acj(he:kE e)(a0:Int):kE (yV a0 e):=U8 he (vP (by simp[lM]) (qO (he.ok.law _)) (pW he.ok.jy)).base λh1 h2=>aci he a0 _ h1 h2 (ach e) λ_ _=>rfl
theorem adL(he:kE e)(a0 kind:Int)(sign:jm)(k:Int)(hk0:0<=k/\k<=1000001)(hke:k<=1000000->e.jy+1<=k)(dn:Dn)(hd:∀c into,dn.give c into=c.one (if sign.data.toList==[45]then 8 else 9) into e.does):kE (uX 379 381 a0 k kind (nX (e.here e.at')) (λus=>.string sign::us) dn):=by
 cases hs:(sign.data.toList==[45])with
 |true=>
  have hs2:(sign.toList==[45])=true:=by rw[aZ];exact hs
  refine PZ 8 366 he (by simp[lM]) hk0 hke (λ_ _=>by rw[hd,hs];rfl) (λb w=>by kernel_rfl) (λargs w=>by kernel_rfl) ?_;intro a b C w T1 b1 into s P hb H1;have c3:=jJ 3 hb rfl;have c4:=jJ 4 hb rfl;have H1:=jB (H1 0);clear hb hs;go_enter func366,ntmps366;go_wp2_with fail;refine H1.out.mono ?_;rintro e1 w1 ⟨rfl,p1⟩;have HP:Hid (P w1):=p1;clear p1 H1;go_wp2_with fail;go_ret;exact⟨rfl,HP.out⟩
 |false=>
  have hs2:(sign.toList==[45])=false:=by rw[aZ];exact hs
  refine PZ 9 366 he (by simp[lM]) hk0 hke (λ_ _=>by rw[hd,hs];rfl) (λb w=>by kernel_rfl) (λargs w=>by kernel_rfl) ?_;intro a b C w T1 b1 into s P hb H1;have c3:=jJ 3 hb rfl;have c4:=jJ 4 hb rfl;have H1:=jB (H1 0);clear hb hs;go_enter func366,ntmps366;go_wp2_with fail;refine H1.out.mono ?_;rintro e1 w1 ⟨rfl,p1⟩;have HP:Hid (P w1):=p1;clear p1 H1;go_wp2_with fail;go_ret;exact⟨rfl,HP.out⟩
theorem VK(he:kE e)(a0 kind:Int)(sign:jm):kE (tV a0 kind sign e):=U8 he (vP (by simp[lM]) (qO (he.ok.law _)) (pW he.ok.jy)).base λh1 h2=>adL he a0 kind sign _ h1 h2 (adK kind sign e) λ_ _=>rfl
theorem aen(he:kE e)(a0 kind owner:Int)(t:Wd)(k:Int)(hk0:0<=k/\k<=1000001)(hke:k<=1000000->e.jy+1<=k)(dn:Dn)(hd:∀c into,dn.give c into=c.one (xM t.text.data.toList) into e.does):kE (uX 383 385 a0 k kind (nX (e.here e.at')) (λus=>Im owner::us++[.string t.text,Im t.at']) dn):=by
 obtain⟨tt,ta⟩:=t;refine PZ (xM tt.data.toList) 370 he (by simp[lM]) hk0 hke hd (λb w=>by kernel_rfl) (λargs w=>by kernel_rfl) ?_;intro a b C w T1 b1 into s P hb H1;have c4:=jJ 4 hb rfl;have c5:=jJ 5 hb rfl;have HO:=jB (λx=>aoK tt x);have H1:=jB H1;clear hb;generalize xM tt.data.toList=o at *;go_enter func370,ntmps370;go_wp2_with fail;refine nJ 12 (by kernel_rfl) (by kernel_rfl) ?_;simp only[aC,aO,aG,aQ];repeat (go_big_quiet_step ((go_at_call 372;exact dN (HO.out _))))
 refine bF ?_;intro _ hw';obtain⟨n3,hw''⟩:=hw';subst hw'';go_wp2_with fail;refine(H1.out _).mono ?_;rintro e1 w1 ⟨rfl,p1⟩;have HP:Hid (P w1):=p1;clear p1 H1;go_wp2_with fail;go_ret;exact⟨rfl,HP.out⟩
theorem aep(he:kE e)(a0 kind owner:Int)(t:Wd):kE (vS a0 kind owner e t):=U8 he (vP (by simp[lM]) (qO (he.ok.law _)) (pW he.ok.jy)).base λh1 h2=>aen he a0 kind owner t _ h1 h2 (aem kind owner e t) λ_ _=>rfl
theorem acy{T' T:jv}{at' kind k:Int}{mk:List jr->List jr}{dn:Dn}(o:Int)(sw:Bool)(f:FuncId)(hl:kE l)(hr:kE r)(hT:lM T')(hk0:0<=k/\k<=1000001)(hke:k<=1000000->l.jy+r.jy+1<=k)(hd:∀c into,dn.give c into=if sw then c.two o into r.does l.does else c.two o into l.does r.does)
 (hm:∀b w,(method 576 T' (Pt b 0) "helm/lang.give").run prog w=.ok (f,Pt b 0) w)(hfe:Enters f)
 (hf:∀(a:Int)(b C:Nat)(w:jo)(T1 T2:jv)(b1 b2:Nat)(into s:Int)(P:jo->Prop),w.heap[b]? =some (.cells (Im a::Im k::Im kind::mk [.iface T1 (Pt b1 0),.iface T2 (Pt b2 0)]).toArray T)->
   (∀n,Calls prog 361 (if sw then #[Pt C 0,.int .u8 o,Im into,.iface T2 (Pt b2 0),.iface T1 (Pt b1 0)]else #[Pt C 0,.int .u8 o,Im into,.iface T1 (Pt b1 0),.iface T2 (Pt b2 0)]) (w.drewN n) λen w'=>en=.returned (Im s)/\P w')->
   Calls prog f #[Pt b 0,Pt C 0,Im into] w λen w'=>en=.returned (Im s)/\P w'):
 kE (uX T' T at' k kind (Ai (l.here l.at') (r.here r.at')) mk dn):=by
 have lc:=hl.ok.jy;have rc:=hr.ok.jy;refine⟨JL hT (P6 (hl.ok.law _) (hr.ok.law _)) hk0,λc into=>?_,λc into hk=>?_,?_⟩
 .show(dn.give c into).1.jA=c.jA;rw[hd];cases sw
  .exact agk hl hr o into
  .exact agk hr hl o into
 .show((dn.give c into).1.code.length:Int)<=c.code.length+200 * k+50;have hk:=hk;have h1:=hke hk;rw[hd];cases sw
  .have h2:=agj (c:=c) hl hr o into (by omega) (by omega);simp only[aH,cZ];omega
  .have h2:=agj (c:=c) hr hl o into (by omega) (by omega);simp only[dM];omega
 rintro a w lo hi T1 b C c into ⟨b',us,hv,h1,h2,⟨u,v,rfl,hu,hv2⟩,hb⟩ hC hc hr';cases hv;obtain⟨T1,b1,rfl,_⟩:=hl.ok.head _ _ _ _ _ hu;obtain⟨T2,b2,rfl,_⟩:=hr.ok.head _ _ _ _ _ hv2;refine⟨f,hm b,hfe,?_⟩;have hk:=hr'.jy;have hp:=hke hk;have hr':Room c k:=hr';show Calls prog f #[Pt b 0,Pt C 0,Im into] w λen w'=>en=.returned (Im (dn.give c into).2)/\kF w' C (dn.give c into).1/\Gk w w' C;rw[hd];refine hf a b C w T1 T2 b1 b2 into _ (λw'=>kF w' C (if sw then c.two o into r.does l.does else c.two o into l.does r.does).1/\Gk w w' C) hb (λn=>?_);have g:=lH w n;have gk:=Gk.grown g hc.lt;have u1:=(hl.ok.law _).gk hu gk (by omega);have u2:=(hr.ok.law _).gk hv2 gk (by omega);cases sw
 .refine(abf hl hr u1 u2 (by omega) (by omega) (hc.grow g) (hr'.less (by omega)) o into).mono ?_;rintro en w' ⟨e1,e2,e3⟩;exact⟨e1,e2,gk.trans e3⟩
 .refine(abf hr hl u2 u1 (by omega) (by omega) (hc.grow g) (hr'.less (by omega)) o into).mono ?_;rintro en w' ⟨e1,e2,e3⟩;exact⟨e1,e2,gk.trans e3⟩
theorem acz{T' T:jv}{at' kind:Int}{mk:List jr->List jr}{dn:Dn}(hl:kE l)(hr:kE r)(hok:IK (qZ T' T at' (jS [l.jy,r.jy]) kind (xH (l.here l.at') (r.here r.at')) mk dn))(h:0<=jS [l.jy,r.jy]/\jS [l.jy,r.jy]<=1000001->(jS [l.jy,r.jy]<=1000000->l.jy+r.jy+1<=jS [l.jy,r.jy])->kE (uX T' T at' (jS [l.jy,r.jy]) kind (Ai (l.here l.at') (r.here r.at')) mk dn)):kE (qZ T' T at' (jS [l.jy,r.jy]) kind (xH (l.here l.at') (r.here r.at')) mk dn):=
 (h (rC hl.ok.jy hr.ok.jy) (λhk=>by rw[zJ hl.ok.jy.1 hl.ok.jy.2 hr.ok.jy.1 hr.ok.jy.2 hk];omega)).of hok (λ_ _ _ _ _ h=>JQ (acv (hl.ok.law _) (hr.ok.law _)) h) rfl rfl
theorem adG(hl:kE l)(hr:kE r)(a0:Int)(k:Int)(hk0:0<=k/\k<=1000001)(hke:k<=1000000->l.jy+r.jy+1<=k)(dn:Dn)(hd:∀c into,dn.give c into=c.two 35 into l.does r.does):kE (uX 398 400 a0 k 2 (Ai (l.here l.at') (r.here r.at')) (λus=>us) dn):=by
 refine acy 35 false 386 hl hr (by simp[lM]) hk0 hke hd (λb w=>by kernel_rfl) (λargs w=>by kernel_rfl) ?_;intro a b C w T1 T2 b1 b2 into s P hb H1;have c3:=jJ 3 hb rfl;have c4:=jJ 4 hb rfl;have H1:=jB H1;clear hb;go_enter func386,ntmps386;go_wp2_with fail;refine nJ 10 (by kernel_rfl) (by kernel_rfl) ?_;simp only[aC,aO,aG,aQ];repeat (go_big_quiet_step (fail))
 refine bF ?_;intro _ hw';obtain⟨n3,hw''⟩:=hw';subst hw'';go_wp2_with fail;refine(H1.out _).mono ?_;rintro e1 w1 ⟨rfl,p1⟩;have HP:Hid (P w1):=p1;clear p1 H1;go_wp2_with fail;go_ret;exact⟨rfl,HP.out⟩
theorem adH(hl:kE l)(hr:kE r)(a0:Int):kE (xJ a0 l r):=acz hl hr (vP (by simp[lM]) (wC (hl.ok.law _) (hr.ok.law _)) (rC hl.ok.jy hr.ok.jy)).base λh1 h2=>adG hl hr a0 _ h1 h2 (adF l r) λ_ _=>rfl
def lY(sign:List UInt8):Int×Bool:=if sign==[62]then (15,true)else if sign==[62,61]then (16,true)else (uZ sign,false)
theorem abo{sign:jm}{a jy kind:Int}{b:Nat}{u v:jr}(hb:w.heap[b]? =some (.cells (Im a::Im jy::Im kind::[.string sign,u,v]).toArray 376)):
 Calls prog 358 #[Pt b 0] w λen w'=>en=.returned (.tuple #[.int .u8 (lY sign.data.toList).1,if (lY sign.data.toList).2 then v else u,if (lY sign.data.toList).2 then u else v])/\∃n,w'=w.drewN n:=by
 have c3:=jJ 3 hb rfl;have c4:=jJ 4 hb rfl;have c5:=jJ 5 hb rfl;have HO:=jB (λx=>aqz sign x);clear hb;unfold lY;cases hs:(sign.data.toList==[62])with
 |true=>
  have hs2:(sign.toList==[62])=true:=by rw[aZ];exact hs
  clear hs;simp only[dM];go_enter func358,ntmps358;go_wp2_with fail;go_quiet (fail);go_wp2_with fail;exact cu (by simp[results,Tryz.results358,go_sem]) rfl ⟨rfl,_,rfl⟩
 |false=>
  have hs2:(sign.toList==[62])=false:=by rw[aZ];exact hs
  clear hs;simp only[aH,cZ];cases ht:(sign.data.toList==[62,61])with
  |true=>
   have ht2:(sign.toList==[62,61])=true:=by rw[aZ];exact ht
   clear ht;simp only[dM];go_enter func358,ntmps358;go_wp2_with fail;go_quiet (fail);go_wp2_with fail;exact cu (by simp[results,Tryz.results358,go_sem]) rfl ⟨rfl,_,rfl⟩
  |false=>
   have ht2:(sign.toList==[62,61])=false:=by rw[aZ];exact ht
   clear ht;simp only[aH,cZ];generalize uZ sign.data.toList=o at *;go_enter func358,ntmps358;go_wp2_with fail;go_quiet ((go_at_call 363;exact dN (HO.out _)));go_wp2_with fail;exact cu (by simp[results,Tryz.results358,go_sem]) rfl ⟨rfl,_,rfl⟩
theorem agd(hl:kE l)(hr:kE r)(a0 kind:Int)(sign:jm)(k:Int)(hk0:0<=k/\k<=1000001)(hke:k<=1000000->l.jy+r.jy+1<=k)(dn:Dn)(hd:∀c into,dn.give c into=(Xa kind sign l r).give c into):kE (uX 374 376 a0 k kind (Ai (l.here l.at') (r.here r.at')) (λus=>.string sign::us) dn):=by
 refine acy (lY sign.data.toList).1 (lY sign.data.toList).2 354 hl hr (by simp[lM]) hk0 hke (λc into=>(hd c into).trans ?_) (λb w=>by kernel_rfl) (λargs w=>by kernel_rfl) ?_
 .show(if sign.data.toList==[62]then c.two 15 into r.does l.does else if sign.data.toList==[62,61]then c.two 16 into r.does l.does else c.two (uZ sign.data.toList) into l.does r.does)=_;unfold lY;split
  .rfl
  .split<;>rfl
 intro a b C w T1 T2 b1 b2 into s P hb H1;have HW:=jB (abo hb);clear hb;generalize lY sign.data.toList=wk at *;obtain⟨o,sw⟩:=wk;simp only at HW H1;cases sw
 .simp only[aH,cZ]at HW H1;have H1:=jB H1;go_enter func354,ntmps354;go_wp2_with fail;refine HW.out.mono ?_;rintro e1 w1 ⟨rfl,n,rfl⟩;go_wp2_with fail;refine(H1.out _).mono ?_;rintro e1 w1 ⟨rfl,p1⟩;have HP:Hid (P w1):=p1;clear p1 H1;go_wp2_with fail;go_ret;exact⟨rfl,HP.out⟩
 .simp only[dM]at HW H1;have H1:=jB H1;go_enter func354,ntmps354;go_wp2_with fail;refine HW.out.mono ?_;rintro e1 w1 ⟨rfl,n,rfl⟩;go_wp2_with fail;refine(H1.out _).mono ?_;rintro e1 w1 ⟨rfl,p1⟩;have HP:Hid (P w1):=p1;clear p1 H1;go_wp2_with fail;go_ret;exact⟨rfl,HP.out⟩
theorem agh(hl:kE l)(hr:kE r)(a0 kind:Int)(sign:jm):kE (o7 a0 kind sign l r):=acz hl hr (vP (by simp[lM]) (wC (hl.ok.law _) (hr.ok.law _)) (rC hl.ok.jy hr.ok.jy)).base λh1 h2=>agd hl hr a0 kind sign _ h1 h2 (Xa kind sign l r) λ_ _=>rfl
end
end
end Go.Proofs.YthllhabjfchgiaaGreatDoor
