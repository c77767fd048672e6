import Derived.Test.YthllhabjfchgiaaGreatDoorHk24
set_option maxRecDepth 100000
set_option maxHeartbeats 8000000
set_option linter.unusedSimpArgs false
namespace Go.Proofs.YthllhabjfchgiaaGreatDoor
open _root_.Go.Proofs.Tryz
section
open Go.RowKit Hx
attribute [local go_sem ↓] Go.wp_at_zero Go.wp_at_succ
attribute [local go_sem] kP
section
variable {w w' w2 wy:jk}{C:Nat}{c:Co}{v nv u:jm}
theorem LV(h:kD w C c):Calls prog 306 #[Pt C 0] w λe w'=>e=.returned (Im c.hold.2)/\kD w' C c.hold.1/\Gk w w' C:=by
 obtain⟨v,nv,h⟩:=h;have c2:=jK 2 h.jM rfl;have fz:=qV h.jM;have HF:Hid (kD (w.setCell (Ad C 2) (Im (wrap64 (c.free+1)))) C c.hold.1/\Gk w (w.setCell (Ad C 2) (Im (wrap64 (c.free+1)))) C):=⟨⟨v,nv,h.jX _⟩,Gk.free _ _ _⟩;clear h;unfold Co.hold at *;simp only at HF⊢;go_enter func306,ntmps306;go_wp2_with fail;go_ret;exact⟨rfl,HF.out⟩
theorem LU(h:kD w C c)(into:Int):Calls prog 364 #[Pt C 0,Im into] w λe w'=>e=.returned (Im (c.choose into).2)/\kD w' C (c.choose into).1/\Gk w w' C:=by
 have HH:=jA (LV h);have HG:Hid (kD w C c/\Gk w w C):=⟨h,Gk.refl _ _⟩;clear h;unfold Co.choose;by_cases hi:into= -1
 .rw[jh hi];subst hi;go_enter func364,ntmps364;go_wp2_with fail;refine HH.out.mono ?_;rintro e w1 ⟨rfl,h1,h2⟩;have HF:=jA (jd h1 h2);clear h1 h2;go_wp2_with fail;go_ret;exact⟨rfl,HF.out⟩
 .rw[jg hi];have d:(into== -1)=false:=by simp[hi]
  go_enter func364,ntmps364;go_wp2_with fail;go_ret;exact⟨rfl,HG.out⟩
def DC(ns:List (ji×Int))(t:ji):Int:=((ns.find? λn=>n.1.data.toList==t.data.toList).map (·.2)).getD (-1)
theorem asM(ns:List (ji×Int))(t:ji)(i:Nat)(k:ji×Int)(h:ns[i]? =some k):DC (ns.drop i) t=if k.1.data.toList==t.data.toList then k.2 else DC (ns.drop (i+1)) t:=by
 obtain⟨hi,he⟩:=List.getElem?_eq_some_iff.1 h;rw[dA hi,he];unfold DC;rw[fF];cases (k.1.data.toList==t.data.toList)<;>rfl
theorem abo(h:kD w C c)(t:ji)(hn:c.jy.length<=4000000):Calls prog 314 #[Pt C 0,.string t] w λen w'=>en=.returned (Im (c.wu t))/\w.grownBy w' none:=by
 obtain⟨v,nv,h⟩:=h;obtain⟨a,cap,rfl⟩:=Bc h.jy;have hC:=h.lt;have c1:=jK 1 h.jM rfl;have HR:=jA h.jy;clear h;have HN:Hid (DC c.jy t=DC (c.jy.drop 0) t):=rfl;show Calls prog 314 #[Pt C 0,.string t] w λen w'=>en=.returned (Im (DC c.jy t))/\w.grownBy w' none;generalize hr:DC c.jy t=r at *;clear hr;generalize c.jy=ns at *;go_enter func314,ntmps314;go_wp2_with fail;go_loopg [12] (ns.length+1) (λgg i wr=>Hid (∃k:Nat,k+gg=ns.length+1/\k<=ns.length/\i=Im k/\r=DC (ns.drop k) t/\w.grownBy wr none))
 case atStart=>exact⟨0,by omega,bD _,rfl,HN.out,aN _ _⟩
 case round=>
  obtain⟨k,hk1,hk2,rfl,hr,hg⟩:=hrel.out;clear hrel;have HG:Hid (w.grownBy wr none):=hg;by_cases hlt:k<ns.length
  .have d1:decide ((k:Int)<(ns.length:Int))=true:=by simp;omega
   have i0:(0:Int)<=(k:Int):=by omega
   have i1:(k:Int)<(ns.length:Int):=by omega
   have hget:ns[k]? =some ns[k]:=by simp
   obtain⟨e0,e1⟩:=adL ns k _ hget;obtain⟨g,hag,hBg,hgl,hcs⟩:=aen HR.out e0;subst hag;have k0:=(HG.out.cell (hcs _ _ e0) (by simp));have k1:=(HG.out.cell (hcs _ _ e1) (by simp));have HD:Hid (r=if ns[k].1.data.toList==t.data.toList then ns[k].2 else DC (ns.drop (k+1)) t):=by rw[hr];exact asM ns t k _ hget
   obtain⟨g',hg'⟩:∃g',gk=g'+1:=⟨gk-1,by omega⟩;clear hr hg hget e0 e1 hcs;generalize ns[k]=kn at *;obtain⟨kt,kk⟩:=kn;simp only at k0 k1 HD;cases ht:(kt.data.toList==t.data.toList)with
   |true=>
    have ht2:(kt.toList==t.toList)=true:=by rw[aZ,aZ];exact ht
    have HD2:Hid (r=kk):=by have:=HD.out;rw[ht]at this;exact this
    clear HD;go_wp2_with fail;go_ret;exact⟨by rw[HD2.out];rfl,HG.out.trans (ah _ _ none)⟩
   |false=>
    have ht2:(kt.toList==t.toList)=false:=by rw[aZ,aZ];exact ht
    have HD2:Hid (r=DC (ns.drop (k+1)) t):=by have:=HD.out;rw[ht]at this;exact this
    clear HD;go_wp2_with fail;go_roundg g'
    case measure=>omega
    case rel=>exact⟨k+1,by omega,by omega,by go_num,HD2.out,HG.out.trans (ah _ _ none)⟩
  .have d1:decide ((k:Int)<(ns.length:Int))=false:=by simp;omega
   have HD:Hid (r= -1):=by rw[hr,fH (by omega)];rfl
   clear hr hg;go_wp2_with fail;go_ret;exact⟨by rw[HD.out];rfl,HG.out⟩
theorem ama:(prog.info? 448).map (λi=>(i.zero,i.size,i.bytes))=some (some (.agg #[.string ⟨#[]⟩,Im 0]),2,24):=by kernel_rfl
theorem TQ(h:kD w C c)(t:ji)(ta slot:Int)(hn:c.jy.length<=4000000):
 Calls prog 324 #[Pt C 0,.agg #[.string t,Im ta],Im slot] w λen w'=>en=.returned (.tuple #[])/\kD w' C (c.know t slot)/\Gk w w' C:=by
 obtain⟨v,nv,h⟩:=h;obtain⟨a,cap,rfl⟩:=Bc h.jy;have hC:=h.lt;have c1:=jK 1 h.jM rfl;obtain⟨i0,hi0,hz0,hz1,hz2⟩:=info_parts ama;have HP:Hid (∀(o o2:Obj)(n:Nat)(w1:jk)(u:jm),(((w.alloc o).alloc o2).drewN n).grownBy w1 (Value.slice a c.jy.length cap).ownBlock->w1.ownsRow (C+1) 448 2 u (c.jy.length+1) (vU c.jy++[.string t,Im slot])->(∀k,u.ownBlock=some k->(Value.slice a c.jy.length cap).ownBlock=some k\/(((w.alloc o).alloc o2).drewN n).heap.size<=k)->
  kD (w1.setCell (Ad C 1) u) C (c.know t slot)/\Gk w (w1.setCell (Ad C 1) u) C/\(∃u,w1.cell? (Ad C 1)=some u)/\w1.frozen? (Ad C 1)=false):=by
  intro o o2 n w1 u hg ho hat;have hgw:=((ah w o none).trans (ah _ o2 none)).trans (lK _ n);have h':=h.grow hgw;have e1:vU (c.jy++[(t,slot)])=vU c.jy++[.string t,Im slot]:=by simp[vU]
  have ho2:w1.ownsRow (C+1) 448 2 u (c.jy++[((t,slot):ji×Int)]).length (vU (c.jy++[(t,slot)])):=by rw[e1];simpa using ho
  have hb1:=(hg.block C h'.lt (λe=>by have:=h'.H7 C e.symm;omega)).trans h'.jM;refine⟨⟨v,u,h'.NI hg ho2 hat⟩,(Gk.grown hgw hC).trans (h'.abu hg hat),⟨.slice a c.jy.length cap,jI hb1⟩,oQ hb1⟩
 have HO:Hid (∀(o o2:Obj)(n:Nat),(((w.alloc o).alloc o2).drewN n).ownsRow (C+1) 448 2 (.slice a c.jy.length cap) c.jy.length (vU c.jy)):=λo o2 n=>
  (h.grow (((ah w o none).trans (ah _ o2 none)).trans (lK _ n))).jy
 have hmx:c.jy.length+1<=maxLen:=by unfold maxLen;omega
 have hby:(c.jy.length+1) * 24<=140737488355328:=by omega
 have n1:¬C=w.heap.size:=by omega
 have n2:C<w.heap.size+1:=by omega
 clear h;generalize c.know t slot=ca at *;generalize vU c.jy=cells at *;generalize c.jy.length=len at *;go_enter func324,ntmps324;go_wp2_with fail;go_region_law ((refine step_append_lies _ (by rfl) _ _ _ (by rfl) (C+1) 448 i0 _ 2 24 Tryz.underlying195 hi0 hz0 hz1 hz2 (by rfl) (by omega) (.slice a len cap) len cells (by rfl) (HO.out _ _ 1) (Ad (w.heap.size+1) 0) 1 1 [.string t,Im slot] (by rfl) (by rfl) (fM (cs:=#[.string t,Im slot]) (t:=448) (fr:=(0,0)) (Uf w _ _)) (by simp[Value.oneCell']) (by omega) hmx hby (by simp;omega) (w.heap.size+1+1) (by simp) ?_;intro gg cap1 w3 hown1 hgrow hat hlt;obtain⟨u12,Uu⟩:=(HP.out _ _ 1 _ _ hgrow hown1 (F8 hat)).2.2.1;have Ug:=(HP.out _ _ 1 _ _ hgrow hown1 (F8 hat)).2.2.2));all_goals (go_wp2;go_end0;exact⟨rfl,(HP.out _ _ 1 _ _ hgrow hown1 (F8 hat)).1,(HP.out _ _ 1 _ _ hgrow hown1 (F8 hat)).2.1⟩)
def D7(w:jk)(C:Nat)(u:jm)(ns:List Int):Prop:=(ns=[]/\u=Nl)\/∃b,u=.slice (some (Ad b 0)) ns.length ns.length/\DU w C b (.cells (ns.map (Value.int .i64)).toArray 3)
theorem D7.gk{ns:List Int}(h:D7 w C u ns)(hl:Gk w w' C):D7 w' C u ns:=by
 rcases h with h|⟨b,h1,h2⟩
 .exact jf h
 .exact je ⟨b,h1,h2.gk hl⟩
theorem D7.form{ns:List Int}(h:D7 w C u ns):∃a,u=.slice a ns.length ns.length:=by
 rcases h with⟨rfl,rfl⟩|⟨b,rfl,_⟩
 .exact⟨none,rfl⟩
 .exact⟨_,rfl⟩
theorem D7.get{ns:List Int}{a:Option Addr}(h:D7 w C (.slice a ns.length ns.length) ns){k:Nat}{x:Int}(hk:ns[k]? =some x):∃b,a=some (Ad b 0)/\w.cell? (Ad b k)=some (Im x):=by
 rcases h with⟨rfl,_⟩|⟨b,e,h2⟩
 .simp at hk
 .cases e;refine⟨b,rfl,(jI h2.at').trans ?_⟩;simp[hk]
structure KT(w wr:jk)(C:Nat)(c:Co)(u:jm)(ns:List Int):Prop where
 co:kD wr C c
 Vu:D7 wr C u ns
 keep:Gk w wr C
theorem amH(c:Co)(o:Int)(ns:List Int)(k:Nat)(x:Int)(h:ns[k]? =some x):(c.lay o (ns.take (k+1))).code=(c.lay o (ns.take k)).code++pV x:=by
 have h1:ns.take (k+1)=ns.take k++[x]:=by rw[fU,h];rfl
 rw[h1];simp[Co.lay]
theorem abl(h:kD w C c)(o:Int)(ns:List Int)(hu:D7 w C u ns)(hl:ns.length<=100)(hn:c.code.length<=900000000):
 Calls prog 92 #[Pt C 0,.int .u8 o,u] w λe w'=>e=.returned (.tuple #[])/\kD w' C (c.lay o ns)/\Gk w w' C:=by
 obtain⟨v,nv,h⟩:=h;obtain⟨a,rfl⟩:=hu.form;obtain⟨va,vc,rfl⟩:=Bc h.code;obtain⟨i0,hi,hz0,hz1,hz2⟩:=info_parts aci;have hC:=h.lt;have c0:=jK 0 h.jM rfl;have HO:=jA (λob=>h.code.alloc ob);have HA:Hid (∀ob w1 g cap,(w.alloc ob).grownBy w1 (Value.slice va c.code.length vc).ownBlock->w1.ownsRow (C+1) 5 1 (.slice (some (Ad g 0)) (c.code.length+1) cap) (c.code.length+1) (uF c.code++[.int .u8 o])->((Value.slice va c.code.length vc).ownBlock=some g\/g=w.heap.size+1)->
  KT w (w1.setCell (Ad C 0) (.slice (some (Ad g 0)) (c.code.length+1) cap)) C (c.lay o (ns.take 0)) (.slice a ns.length ns.length) ns/\w1.cell? (Ad C 0)=some (.slice va c.code.length vc)/\∀j,w1.frozen? (Ad C j)=false):=by
  intro ob w1 g cap hg ho hat;have hgw:=ah w ob none;have h':=h.grow hgw;have hat':∀k,(Value.slice (some (Ad g 0)) (c.code.length+1) cap).ownBlock=some k->(Value.slice va c.code.length vc).ownBlock=some k\/(w.alloc ob).heap.size<=k:=λk hk=>by
   simp only[Value.ownBlock,bJ]at hk;subst hk;exact hat.imp id (λe=>by simp;omega)
  have e1:uF (c.code++[o])=uF c.code++[.int .u8 o]:=by simp[uF]
  have ho2:w1.ownsRow (C+1) 5 1 (.slice (some (Ad g 0)) (c.code.length+1) cap) (c.code++[o]).length (uF (c.code++[o])):=by rw[e1];simpa using ho
  have hk:=(Gk.grown hgw hC).trans (h'.abt hg hat');have hb1:=(hg.block C h'.lt (λe=>by have:=h'.Gp C e.symm;omega)).trans h'.jM;exact⟨⟨⟨_,nv,by simpa [Co.lay]using h'.afH hg ho2 hat'⟩,hu.gk hk,hk⟩,jI hb1,λj=>oQ hb1⟩
 have n1:¬C=w.heap.size:=by omega
 have HL:Hid (∀k,k<=ns.length->(c.lay o (ns.take k)).code.length<=990000000):=λk hk=>by
  have:=oO c o (ns.take k);have:(ns.take k).length<=ns.length:=by rw[gI];omega
  omega
 have HB:Hid (∀(k:Nat)(x:Int)(wr:jk),ns[k]? =some x->KT w wr C (c.lay o (ns.take k)) (.slice a ns.length ns.length) ns->∃y,wr.cell? (Ad C 0)=some y/\Calls prog 144 #[y,Im x] wr λe w'=>∃g m cap,e=.returned (.slice (some (Ad g 0)) m cap)/\KT w (w'.setCell (Ad C 0) (.slice (some (Ad g 0)) m cap)) C (c.lay o (ns.take (k+1))) (.slice a ns.length ns.length) ns/\(∃y,w'.cell? (Ad C 0)=some y)/\∀j,w'.frozen? (Ad C j)=false):=λk x wr hx hI=>by
  obtain⟨⟨v1,zT,k1⟩,k2,k3⟩:=hI;have hkl:k<ns.length:=(List.getElem?_eq_some_iff.1 hx).1;refine⟨v1,jI k1.jM,(ah9 _ _ x k1.code (by have:=k1.lt;omega) (by have:=HL.out k (by omega);omega)).mono ?_⟩;rintro e w' ⟨g,cap,e1,e2,e3,e4⟩;have hat':∀k',(Value.slice (some (Ad g 0)) ((c.lay o (ns.take k)).code.length+(pV x).length) cap).ownBlock=some k'->v1.ownBlock=some k'\/wr.heap.size<=k':=λk' hk'=>by
   simp only[Value.ownBlock,bJ]at hk';subst hk';exact e4
  have e5:uF ((c.lay o (ns.take k)).code++pV x)=uF (c.lay o (ns.take k)).code++uF (pV x):=by simp[uF]
  have ho2:w'.ownsRow (C+1) 5 1 (.slice (some (Ad g 0)) ((c.lay o (ns.take k)).code.length+(pV x).length) cap) ((c.lay o (ns.take k)).code++pV x).length (uF ((c.lay o (ns.take k)).code++pV x)):=by rw[e5,aA];exact e2
  have hk:=k1.abt e3 hat';have hb1:=(e3.block C k1.lt (λe=>by have:=k1.Gp C e.symm;omega)).trans k1.jM;refine⟨g,_,cap,e1,⟨⟨.slice (some (Ad g 0)) ((c.lay o (ns.take k)).code.length+(pV x).length) cap,zT,?_⟩,k2.gk hk,k3.trans hk⟩,⟨v1,jI hb1⟩,λj=>oQ hb1⟩;have:=k1.afH e3 ho2 hat';rw[<-amH c o ns k x hx]at this;exact this
 have HZ:Hid (∀wr,KT w wr C (c.lay o (ns.take ns.length)) (.slice a ns.length ns.length) ns->kD wr C (c.lay o ns)/\Gk w wr C):=λwr hI=>by
  have h1:=hI.co;rw[eU (aj _)]at h1;exact⟨h1,hI.keep⟩
 clear h hu;generalize hxs:uF c.code=xs at *;clear hxs;generalize hm:c.code.length=m at *;go_enter func92,ntmps92;go_wp2_with (at_builtin;refine wpList_append_lies _ rfl _ _ 194 rfl (C+1) 5 i0 (.int .u8 0) 1 1 Tryz.underlying194 hi hz0 hz1 hz2 rfl (by decide) (.slice va m vc) m xs rfl (HO.out _) (Ad w.heap.size 0) 1 1 [.int .u8 o] rfl rfl (cell_one_new _ _ _) (by simp[Value.oneCell']) (by decide) (by unfold maxLen;omega) (by omega) (by simp;omega) (w.heap.size+1) (by simp) ?_;intro g cap w2 hown hgr hat hlt;have e1:=(HA.out _ _ _ _ hgr hown hat).2.1;have e2:=(HA.out _ _ _ _ hgr hown hat).2.2);have HQ:=jA ((HA.out _ _ _ _ hgr hown hat).1);clear hown hgr hat e1 e2 HA HO;generalize w2.setCell (Ad C 0) (.slice (some (Ad g 0)) (m+1) cap)=w3 at *;go_loopg [20] (ns.length+1) (λgg i wr=>Hid (∃k:Nat,k+gg=ns.length+1/\k<=ns.length/\i=Im k/\KT w wr C (c.lay o (ns.take k)) (.slice a ns.length ns.length) ns))
 case atStart=>exact⟨0,by omega,bD _,rfl,HQ.out⟩
 case round=>
  obtain⟨k,hk1,hk2,rfl,hI⟩:=hrel.out;clear hrel HQ;by_cases hkl:k<ns.length
  .have d1:decide ((k:Int)<(ns.length:Int))=true:=by simp;omega
   have i1:(0:Int)<=(k:Int):=by omega
   have i2:(k:Int)<(ns.length:Int):=by omega
   have hget:ns[k]? =some ns[k]:=by simp
   obtain⟨b,hab,kc⟩:=hI.Vu.get hget;subst hab;obtain⟨y,hy,NV⟩:=HB.out k _ wr hget hI;have NV:=jA NV;obtain⟨g',hg'⟩:∃g',gk=g'+1:=⟨gk-1,by omega⟩;clear hI hget;generalize ns[k]=x at *;go_wp2_with fail;refine NV.out.mono ?_;rintro e w4 ⟨g4,m4,cap4,rfl,hI4,⟨y4,hy4⟩,fz⟩;have HI4:=jA hI4;clear hI4 NV;go_wp2_with fail;go_roundg g'
   case measure=>omega
   case rel=>exact⟨k+1,by omega,by omega,by go_num,HI4.out⟩
  .have d1:decide ((k:Int)<(ns.length:Int))=false:=by simp;omega
   have hke:k=ns.length:=by omega
   have HE:=jA (HZ.out wr (by rw[hke]at hI;exact hI));clear hI hke;go_wp2_with fail;go_end0;exact⟨rfl,HE.out⟩
end
section
variable {w w' w1 w2:jk}{C lo hi b:Nat}{c:Co}{u:jm}{e l r:Ex}{a:Int}{T:jo}
structure Room(c:Co)(k:Int):Prop where
 jw:k<=1000000
 code:(c.code.length:Int)+200 * k<=800000000
 jy:(c.jy.length:Int)+k<=3000000
structure Iz(e:Ex):Prop where
 law:∀a,Lawful (e.here a)
 head:∀a w lo hi v,e.here a w lo hi v->∃T b,v=.iface T (Pt b 0)/\lU T/\lo<=b/\b<hi/\w.cell? (Ad b 0)=some (Im a)/\w.cell? (Ad b 1)=some (Im e.jw)/\∀j,w.frozen? (Ad b j)=false
 jw:0<=e.jw/\e.jw<=1000001
theorem kV.base{e:Ex}(h:kV e):Iz e:=⟨h.law,h.head,h.jw⟩
def uZ(T' T:jo)(at' jw kind:Int)(K:Hx.Kids)(mk:List jm->List jm)(dn:Dn:={}):Ex:=
 ⟨at',jw,λa w lo hi v=>∃b us,v=.iface T' (Pt b 0)/\lo<=b/\b<hi/\K w lo hi us/\w.heap[b]? =some (.cells (Im a::Im jw::Im kind::mk us).toArray T),dn⟩
theorem JK{T' T:jo}{at' jw kind:Int}{K:Hx.Kids}{mk:List jm->List jm}{dn:Dn}(hT:lU T')(hK:yK K)(hc:0<=jw/\jw<=1000001):Iz (uZ T' T at' jw kind K mk dn):=by
 refine⟨λa=>⟨?_,?_⟩,?_,hc⟩
 .rintro w w' lo hi v ⟨b,us,hv,h1,h2,h3,h4⟩ hk;exact⟨b,us,hv,h1,h2,hK.loc _ _ _ _ _ h3 hk,(hk b h1 h2).trans h4⟩
 .rintro w lo hi lo' hi' v ⟨b,us,hv,h1,h2,h3,h4⟩ l1 l2;exact⟨b,us,hv,by omega,by omega,hK.wide _ _ _ _ _ _ h3 l1 l2,h4⟩
 .rintro a w lo hi v ⟨b,us,hv,h1,h2,h3,h4⟩;exact⟨T',b,hv,hT,h1,h2,jI h4,jI h4,λj=>oQ h4⟩
theorem JO{T' T:jo}{at' jw kind:Int}{K K':Hx.Kids}{mk:List jm->List jm}{dn dn':Dn}{v:jm}(hK:∀w lo b hi us,K w lo b us->b<=hi->K' w lo hi us)(h:(rE T' T at' jw kind K mk dn).here a w lo hi v):(uZ T' T at' jw kind K' mk dn').here a w lo hi v:=by
 obtain⟨b,us,hv,h1,h2,h3,h4⟩:=h;exact⟨b,us,hv,h1,h2,hK _ _ _ _ _ h3 (by omega),h4⟩
def AP(E F:Hx.sV):Hx.Kids:=λw lo hi us=>∃u v,us=[u,v]/\E w lo hi u/\F w lo hi v
theorem PV{E F:Hx.sV}(h:Lawful E)(k:Lawful F):yK (AP E F):=
 ⟨λ_ _ _ _ _ ⟨u,v,e,hu,hv⟩ hk=>⟨u,v,e,h.loc _ _ _ _ _ hu hk,k.loc _ _ _ _ _ hv hk⟩,λ_ _ _ _ _ _ ⟨u,v,e,hu,hv⟩ l1 l2=>⟨u,v,e,h.wide _ _ _ _ _ _ hu l1 l2,k.wide _ _ _ _ _ _ hv l1 l2⟩⟩
theorem PO{E:Hx.sV}(h:Lawful E)(w:jk)(lo b hi:Nat)(us:List jm)(k:og E w lo b us)(hb:b<=hi):og E w lo hi us:=(qW h).wide _ _ _ _ _ _ k (aj _) hb
theorem acT{E F:Hx.sV}(h:Lawful E)(k:Lawful F)(w:jk)(lo b hi:Nat)(us:List jm)(hk:xY E F w lo b us)(hb:b<=hi):AP E F w lo hi us:=by
 obtain⟨m,u,v,e,h1,h2,hu,hv⟩:=hk;exact⟨u,v,e,h.wide _ _ _ _ _ _ hu (aj _) (by omega),k.wide _ _ _ _ _ _ hv h1 hb⟩
structure kC(e:Ex):Prop where
 ok:Iz e
 jy:∀c into,(e.does.give c into).1.jy=c.jy
 len:∀c into,e.jw<=1000000->((e.does.give c into).1.code.length:Int)<=c.code.length+200 * e.jw+50
 give:∀a w lo hi T b C c into,e.here a w lo hi (.iface T (Pt b 0))->hi<=C->kD w C c->Room c e.jw->
  ∃f,(∀w,(method 576 T (Pt b 0) "helm/lang.give").run prog w=.ok (f,Pt b 0) w)/\Enters f/\
   Calls prog f #[Pt b 0,Pt C 0,Im into] w λen w'=>en=.returned (Im (e.does.give c into).2)/\kD w' C (e.does.give c into).1/\Gk w w' C
theorem kC.of{e e':Ex}(h:kC e')(ok:Iz e)(hh:∀a w lo hi v,e.here a w lo hi v->e'.here a w lo hi v)(hc:e.jw=e'.jw)(hd:e.does.give=e'.does.give):kC e:=
 ⟨ok,λc into=>by rw[hd];exact h.jy c into,λc into hk=>by rw[hd,hc];exact h.len c into (by rw[<-hc];exact hk),λa w lo hi T b C c into hv hC hg hr=>by rw[hd];exact h.give a w lo hi T b C c into (hh _ _ _ _ _ hv) hC hg (by rw[<-hc];exact hr)⟩
theorem Jd(c:Co)(into:Int):(c.choose into).1.jy=c.jy:=by unfold Co.choose;split<;>rfl
theorem Df(c:Co)(into:Int):(c.choose into).1.code=c.code:=by unfold Co.choose;split<;>rfl
theorem Hr(c:Co)(o:Int)(ns:List Int):(c.lay o ns).jy=c.jy:=rfl
theorem QO(c:Co)(f:Int):(c.jX f).jy=c.jy:=rfl
theorem EH(c:Co)(f:Int):(c.jX f).code=c.code:=rfl
theorem FM(h:kD w C c)(o:Int)(hn:c.code.length<=900000000):Calls prog 92 #[Pt C 0,.int .u8 o,Nl] w λe w'=>e=.returned (.tuple #[])/\kD w' C (c.lay o [])/\Gk w w' C:=
 abl h o [] (jf ⟨rfl,rfl⟩) (by simp) hn
theorem O6(h:kD w C c)(o:Int)(ns:List Int)(hl:ns.length<=100)(hn:c.code.length<=900000000):Calls prog 92 #[Pt C 0,.int .u8 o,.slice (some (Ad w.heap.size 0)) ns.length ns.length] (w.alloc (.cells (ns.map (Value.int .i64)).toArray 3)) λe w'=>e=.returned (.tuple #[])/\kD w' C (c.lay o ns)/\Gk w w' C:=by
 have g:=ah w (.cells (ns.map (Value.int .i64)).toArray 3) none;refine(abl (h.grow g) o ns (je ⟨w.heap.size,rfl,DU.new h _⟩) hl hn).mono ?_;rintro e w' ⟨h1,h2,h3⟩;exact⟨h1,h2,(Gk.grown g h.lt).trans h3⟩
theorem abm(h:kD w C c)(o n1:Int)(hn:c.code.length<=900000000):Calls prog 92 #[Pt C 0,.int .u8 o,.slice (some (Ad w.heap.size 0)) 1 1] (w.alloc (.cells #[Im n1] 3)) λe w'=>e=.returned (.tuple #[])/\kD w' C (c.lay o [n1])/\Gk w w' C:=O6 h o [n1] (by simp) hn
theorem Au(h:kD w C c)(o n1 n2:Int)(hn:c.code.length<=900000000):Calls prog 92 #[Pt C 0,.int .u8 o,.slice (some (Ad w.heap.size 0)) 2 2] (w.alloc (.cells #[Im n1,Im n2] 3)) λe w'=>e=.returned (.tuple #[])/\kD w' C (c.lay o [n1,n2])/\Gk w w' C:=O6 h o [n1,n2] (by simp) hn
theorem O5(h:kD w C c)(o n1 n2 n3:Int)(hn:c.code.length<=900000000):Calls prog 92 #[Pt C 0,.int .u8 o,.slice (some (Ad w.heap.size 0)) 3 3] (w.alloc (.cells #[Im n1,Im n2,Im n3] 3)) λe w'=>e=.returned (.tuple #[])/\kD w' C (c.lay o [n1,n2,n3])/\Gk w w' C:=O6 h o [n1,n2,n3] (by simp) hn
theorem akK(h:kD w C c)(o n1 n2 n3 n4:Int)(hn:c.code.length<=900000000):Calls prog 92 #[Pt C 0,.int .u8 o,.slice (some (Ad w.heap.size 0)) 4 4] (w.alloc (.cells #[Im n1,Im n2,Im n3,Im n4] 3)) λe w'=>e=.returned (.tuple #[])/\kD w' C (c.lay o [n1,n2,n3,n4])/\Gk w w' C:=O6 h o [n1,n2,n3,n4] (by simp) hn
theorem adT(a0 n jw kind:Int)(hc0:0<=jw/\jw<=1000001)(dn:Dn)(hd:dn.give=wO n):kC (uZ 405 407 a0 jw kind y9 (λ_=>[Im n]) dn):=by
 refine⟨JK (by simp[lU]) Cc hc0,λc into=>by show(dn.give c into).1.jy=_;rw[hd];exact Jd c into,λc into _=>?_,?_⟩
 .show((dn.give c into).1.code.length:Int)<=c.code.length+200 * jw+50;rw[hd];show((((c.choose into).1.lay 6 [(c.choose into).2,n]).code.length:Nat):Int)<=c.code.length+200 * jw+50;have h1:=oO (c.choose into).1 6 [(c.choose into).2,n];rw[Df]at h1;simp only[aF,bg]at h1;omega
 rintro a w lo hi T b C c into ⟨b',us,hv,h1,h2,h3,hb⟩ hC hc hr;cases hv;have c3:=jK 3 hb rfl;refine⟨389,λw=>by kernel_rfl,λargs w=>by kernel_rfl,?_⟩;show Calls prog 389 #[Pt b 0,Pt C 0,Im into] w λen w'=>en=.returned (Im (dn.give c into).2)/\kD w' C (dn.give c into).1/\Gk w w' C;rw[hd];show Calls prog 389 #[Pt b 0,Pt C 0,Im into] w λen w'=>en=.returned (Im (c.choose into).2)/\kD w' C ((c.choose into).1.lay 6 [(c.choose into).2,n])/\Gk w w' C;have HC:=jA (LU hc into);have hl:(c.choose into).1.code.length<=900000000:=by rw[Df];have h1:(c.code.length:Int)+200 * jw<=800000000:=hr.code;omega
 clear hb hc hr;generalize c.choose into=k at *;obtain⟨k1,k2⟩:=k;simp only at HC hl⊢;go_enter func389,ntmps389;go_wp2_with fail;refine HC.out.mono ?_;rintro e w1 ⟨rfl,p1,q1⟩;have d3:=(q1.cell (by omega)).trans c3;have HL:=jA (Au p1 6 k2 n hl);have HK:=jA q1;clear p1 q1 HC;go_wp2_with fail;refine HL.out.mono ?_;rintro e w3 ⟨rfl,p3,q3⟩;have HF:=jA (jd p3 (HK.out.trans q3));clear p3 q3 HL;go_wp2_with fail;go_ret;exact⟨rfl,HF.out⟩
theorem adU(a0 n:Int):kC (kN a0 n):=(adT a0 n 1 1 (by omega) (adS n) rfl).of (Vt a0 n).base (λ_ _ _ _ _ h=>JO (λ_ _ _ _ _ h _=>h) h) rfl rfl
theorem agJ(a0 jw kind:Int)(t:Bool)(hok:0<=jw/\jw<=1000001)(dn:Dn)(hd:dn.give=Gm t):kC (uZ 392 394 a0 jw kind y9 (λ_=>[.bool t]) dn):=by
 have hc0:=hok.1;refine⟨JK (by simp[lU]) Cc hok,λc into=>by show(dn.give c into).1.jy=_;rw[hd];exact Jd c into,λc into _=>?_,?_⟩
 .show((dn.give c into).1.code.length:Int)<=c.code.length+200 * jw+50;rw[hd];show((((c.choose into).1.lay 6 [(c.choose into).2,if t then 1 else 0]).code.length:Nat):Int)<=c.code.length+200 * jw+50;have h1:=oO (c.choose into).1 6 [(c.choose into).2,if t then 1 else 0];rw[Df]at h1;simp only[aF,bg]at h1;omega
 rintro a w lo hi T b C c into ⟨b',us,hv,h1,h2,h3,hb⟩ hC hc hr;cases hv;have c3:=jK 3 hb rfl;refine⟨380,λw=>by kernel_rfl,λargs w=>by kernel_rfl,?_⟩;show Calls prog 380 #[Pt b 0,Pt C 0,Im into] w λen w'=>en=.returned (Im (dn.give c into).2)/\kD w' C (dn.give c into).1/\Gk w w' C;rw[hd];show Calls prog 380 #[Pt b 0,Pt C 0,Im into] w λen w'=>en=.returned (Im (c.choose into).2)/\kD w' C ((c.choose into).1.lay 6 [(c.choose into).2,if t then 1 else 0])/\Gk w w' C;have HC:=jA (LU hc into);have hr':(c.code.length:Int)+200 * jw<=800000000:=hr.code;have hl:(c.choose into).1.code.length<=900000000:=by
  rw[Df];omega
 have HT:Hid (∀x,Calls prog 152 #[.bool t] x λe w'=>e=.returned (Im (if t then 1 else 0))/\w'=x):=λx=>Ko t x;clear hb hc hr hr';generalize c.choose into=k at *;generalize (if t then (1:Int)else 0)=n at *;obtain⟨k1,k2⟩:=k;simp only at HC hl⊢;go_enter func380,ntmps380;go_wp2_with fail;refine HC.out.mono ?_;rintro e w1 ⟨rfl,p1,q1⟩;have d3:=(q1.cell (by omega)).trans c3;have HL:=jA (Au p1 6 k2 n hl);have HK:=jA q1;clear p1 q1 HC;go_wp2_with fail;refine(HT.out _).mono ?_;rintro e w2 ⟨rfl,rfl⟩;go_wp2_with fail;refine HL.out.mono ?_;rintro e w3 ⟨rfl,p3,q3⟩;have HF:=jA (jd p3 (HK.out.trans q3));clear p3 q3 HL;go_wp2_with fail;go_ret;exact⟨rfl,HF.out⟩
theorem Xb{a0 jw kind:Int}{t:Bool}(hok:kV (zY a0 jw kind t)):kC (zY a0 jw kind t):=(agJ a0 jw kind t hok.jw (agI kind t) rfl).of hok.base (λ_ _ _ _ _ h=>JO (λ_ _ _ _ _ h _=>h) h) rfl rfl
theorem atv(a:Int)(b:Bool):kC (zY a 1 2 b):=Xb (Rn a 2 b)
theorem adM:kC rF:=Xb F7
theorem afb(a0 i:Int):kC (wQ a0 i):=by
 refine⟨(VZ a0 i).base,λc into=>rfl,λc into _=>?_,?_⟩
 .show((c.code.length:Nat):Int)<=c.code.length+200 * 1+50;omega
 rintro a w lo hi T b C c into ⟨b',us,hv,h1,h2,h3,hb⟩ hC hc hr;cases hv;have c3:=jK 3 hb rfl;refine⟨374,λw=>by kernel_rfl,λargs w=>by kernel_rfl,?_⟩;have HF:Hid (kD w C c/\Gk w w C):=⟨hc,Gk.refl _ _⟩;clear hb hc hr;go_enter func374,ntmps374;go_wp2_with fail;go_ret;exact⟨rfl,HF.out⟩
theorem agW(a0:Int)(t:Wd):kC (oZ a0 t):=by
 obtain⟨tt,ta⟩:=t;refine⟨(YJ a0 _).base,λc into=>rfl,λc into _=>?_,?_⟩
 .show((c.code.length:Nat):Int)<=c.code.length+200 * 1+50;omega
 rintro a w lo hi T b C c into ⟨k,b',us,hv,h1,h2,h3,hb⟩ hC hc hr;cases hv;have c3:=jK 3 hb rfl;refine⟨377,λw=>by kernel_rfl,λargs w=>by kernel_rfl,?_⟩;have HS:=jA (abo hc tt (by have:=hr.jy;have:(oZ a0 ⟨tt,ta⟩).jw=1:=rfl;omega));have HI:=jA hc;clear hb hc hr;go_enter func377,ntmps377;go_wp2_with fail;refine HS.out.mono ?_;rintro e w1 ⟨rfl,g1⟩;have HF:=jA (jd (HI.out.grow g1) (Gk.grown g1 HI.out.lt));clear g1;go_wp2_with fail;go_ret;exact⟨rfl,HF.out⟩
theorem ag4{e:Ex}(h:kC e)(a:Int):kC (e.widen a):=⟨⟨h.ok.law,h.ok.head,h.ok.jw⟩,h.jy,h.len,h.give⟩
theorem Room.less{k m:Int}(h:Room c m)(hk:k<=m):Room c k:=⟨by have:=h.jw;omega,by have:=h.code;omega,by have:=h.jy;omega⟩
theorem kC.LD(h:kC e)(hr:Room c e.jw)(into:Int):(e.does.give c into).1.code.length<=850000000:=by
 have h1:=h.len c into hr.jw;have h2:=hr.code;omega
theorem akL(he:kC e)(hh:e.here e.at' w lo hi u)(hC:hi<=C)(hc:kD w C c)(hr:Room c e.jw)(o into:Int):
 Calls prog 368 #[Pt C 0,.int .u8 o,Im into,u] w λen w'=>en=.returned (Im (c.one o into e.does).2)/\kD w' C (c.one o into e.does).1/\Gk w w' C:=by
 obtain⟨T1,b1,rfl,_⟩:=he.ok.head _ _ _ _ _ hh;obtain⟨f1,m1,kM,H1⟩:=he.give _ _ _ _ _ _ C c (-1) hh hC hc hr;have kM:∀args w,(callFunc f1 args).run prog w=.ok (.enter f1 args) w:=kM;have H1:Hid (Calls prog f1 #[Pt b1 0,Pt C 0,Im (-1)] w λen w'=>en=.returned (Im (e.does.give c (-1)).2)/\kD w' C (e.does.give c (-1)).1/\Gk w w' C):=H1;have hl:=he.LD hr (-1);obtain⟨v0,JR,h0⟩:=hc;have c2:=jK 2 h0.jM rfl;clear h0 hh hr;unfold Co.one;generalize e.does.give c (-1)=r at *;obtain⟨rc,rs⟩:=r;simp only at H1 hl⊢;generalize hfr:c.free=fr at *;have hl2:((rc.jX fr).choose into).1.code.length<=900000000:=by rw[Df,EH];omega
 generalize hk:(rc.jX fr).choose into=k at *;have KE:=jA hk;clear hk;go_enter func368,ntmps368;go_wp2_with fail;refine H1.out.mono ?_;rintro e1 w1 ⟨rfl,⟨v1,zT,p1⟩,q1⟩;have d2:=jK 2 p1.jM rfl;have fz:=qV p1.jM;have HC:Hid (Calls prog 364 #[Pt C 0,Im into] (w1.setCell (Ad C 2) (Im fr)) λe w'=>e=.returned (Im k.2)/\kD w' C k.1/\Gk (w1.setCell (Ad C 2) (Im fr)) w' C):=by
  have:=LU ⟨v1,zT,p1.jX fr⟩ into;rw[KE.out]at this;exact this
 have mg:Hid (Gk w (w1.setCell (Ad C 2) (Im fr)) C):=q1.trans (Gk.free _ _ _);clear p1 q1 H1;obtain⟨k1,k2⟩:=k;simp only at HC hl2⊢;go_wp2_with fail;refine HC.out.mono ?_;rintro e2 w2 ⟨rfl,p2,q2⟩;have HL:=jA (Au p2 o k2 rs hl2);have lT:=jA (mg.out.trans q2);clear p2 q2 HC mg d2 fz;go_wp2_with fail;refine HL.out.mono ?_;rintro e3 w3 ⟨rfl,p3,q3⟩;have HF:=jA (jd p3 (lT.out.trans q3));clear p3 q3 HL;go_wp2_with fail;go_ret;exact⟨rfl,HF.out⟩
theorem aoR(he:kC e)(o into:Int):(c.one o into e.does).1.jy=c.jy:=by
 unfold Co.one;simp only[Hr,Jd,QO,he.jy]
theorem aoN(he:kC e)(o into:Int)(hk:e.jw<=1000000):((c.one o into e.does).1.code.length:Int)<=c.code.length+200 * e.jw+50+21:=by
 unfold Co.one;simp only;have h1:=oO (((e.does.give c (-1)).1.jX c.free).choose into).1 o [(((e.does.give c (-1)).1.jX c.free).choose into).2,(e.does.give c (-1)).2];rw[Df,EH]at h1;have h2:=he.len c (-1) hk;simp only[aF,bg]at h1;omega
theorem abq(hl:kC l)(hr:kC r){m hi':Nat}{v:jm}(hu:l.here l.at' w lo m u)(hv:r.here r.at' w hi' hi v)(hm:m<=C)(hC:hi<=C)(hc:kD w C c)(hro:Room c (l.jw+r.jw+1))(o into:Int):
 Calls prog 361 #[Pt C 0,.int .u8 o,Im into,u,v] w λen w'=>en=.returned (Im (c.two o into l.does r.does).2)/\kD w' C (c.two o into l.does r.does).1/\Gk w w' C:=by
 have lc:=hl.ok.jw;have rc:=hr.ok.jw;obtain⟨T1,b1,rfl,_⟩:=hl.ok.head _ _ _ _ _ hu;obtain⟨T2,b2,rfl,_⟩:=hr.ok.head _ _ _ _ _ hv;obtain⟨f1,m1,kM,H1⟩:=hl.give _ _ _ _ _ _ C c (-1) hu hm hc (hro.less (by omega));have kM:∀args w,(callFunc f1 args).run prog w=.ok (.enter f1 args) w:=kM;have H1:Hid (Calls prog f1 #[Pt b1 0,Pt C 0,Im (-1)] w λen w'=>en=.returned (Im (l.does.give c (-1)).2)/\kD w' C (l.does.give c (-1)).1/\Gk w w' C):=H1;have hl1:=hl.len c (-1) (by have:=hro.jw;omega);have hn1:=hl.jy c (-1);have HR:Hid (kC r/\r.here r.at' w hi' hi (.iface T2 (Pt b2 0))/\Room (l.does.give c (-1)).1 r.jw):=⟨hr,hv,⟨by have:=hro.jw;omega,by have:=hro.code;omega,by have:=hro.jy;rw[hn1];omega⟩⟩;have hl2:=hr.LD HR.out.2.2 (-1);obtain⟨v0,JR,h0⟩:=hc;have c2:=jK 2 h0.jM rfl;clear h0 hu hv hro hl1 hn1 hr hl;unfold Co.two;generalize l.does.give c (-1)=x at *;obtain⟨xc,xs⟩:=x;simp only at H1 HR hl2⊢;generalize hy:r.does.give xc (-1)=y at *;have HY:=jA hy;clear hy;obtain⟨yc,ys⟩:=y;simp only at hl2⊢;generalize hfr:c.free=fr at *;have hl3:((yc.jX fr).choose into).1.code.length<=900000000:=by rw[Df,EH];omega
 generalize hk:(yc.jX fr).choose into=k at *;have KE:=jA hk;clear hk;go_enter func361,ntmps361;go_wp2_with fail;refine H1.out.mono ?_;rintro e1 w1 ⟨rfl,p1,q1⟩;obtain⟨f2,m2,qp,H2⟩:=HR.out.1.give _ _ _ _ _ _ C xc (-1) ((HR.out.1.ok.law _).gk HR.out.2.1 q1 hC) hC p1 HR.out.2.2;have qp:∀args w,(callFunc f2 args).run prog w=.ok (.enter f2 args) w:=qp;rw[HY.out]at H2;have H2:Hid (Calls prog f2 #[Pt b2 0,Pt C 0,Im (-1)] w1 λen w'=>en=.returned (Im ys)/\kD w' C yc/\Gk w1 w' C):=H2;have mg:=jA q1;clear p1 q1 H1;go_wp2_with fail;refine H2.out.mono ?_;rintro e2 w2 ⟨rfl,⟨v2,nv2,p2⟩,q2⟩;have d2:=jK 2 p2.jM rfl;have fz:=qV p2.jM;have HC:Hid (Calls prog 364 #[Pt C 0,Im into] (w2.setCell (Ad C 2) (Im fr)) λe w'=>e=.returned (Im k.2)/\kD w' C k.1/\Gk (w2.setCell (Ad C 2) (Im fr)) w' C):=by
  have:=LU ⟨v2,nv2,p2.jX fr⟩ into;rw[KE.out]at this;exact this
 have lT:Hid (Gk w (w2.setCell (Ad C 2) (Im fr)) C):=(mg.out.trans q2).trans (Gk.free _ _ _);clear p2 q2 H2 mg;obtain⟨k1,k2⟩:=k;simp only at HC hl3⊢;go_wp2_with fail;refine HC.out.mono ?_;rintro e3 w3 ⟨rfl,p3,q3⟩;have HL:=jA (O5 p3 o k2 xs ys hl3);have qA:=jA (lT.out.trans q3);clear p3 q3 HC lT d2 fz;go_wp2_with fail;refine HL.out.mono ?_;rintro e4 w4 ⟨rfl,p4,q4⟩;have HF:=jA (jd p4 (qA.out.trans q4));clear p4 q4 HL;go_wp2_with fail;go_ret;exact⟨rfl,HF.out⟩
theorem agS(hl:kC l)(hr:kC r)(o into:Int):(c.two o into l.does r.does).1.jy=c.jy:=by
 unfold Co.two;simp only[Hr,Jd,QO,hl.jy,hr.jy]
theorem agR(hl:kC l)(hr:kC r)(o into:Int)(hk:l.jw<=1000000)(hk2:r.jw<=1000000):((c.two o into l.does r.does).1.code.length:Int)<=c.code.length+200 * (l.jw+r.jw)+100+31:=by
 unfold Co.two;simp only;have h1:=oO (((r.does.give (l.does.give c (-1)).1 (-1)).1.jX c.free).choose into).1 o [(((r.does.give (l.does.give c (-1)).1 (-1)).1.jX c.free).choose into).2,(l.does.give c (-1)).2,(r.does.give (l.does.give c (-1)).1 (-1)).2];rw[Df,EH]at h1;have h2:=hl.len c (-1) hk;have h3:=hr.len (l.does.give c (-1)).1 (-1) hk2;simp only[aF,bg]at h1;omega
theorem yG{k:Int}(h0:0<=k)(hk:k<=1000001)(h:jR [k]<=1000000):jR [k]=1+k:=by
 have h1:=(yu [k] (by simp;omega)).1;unfold jR at h⊢;have h2:=Gl (a:=1) h1 h;rw[h2,W9 (by omega)]
theorem zU{k m:Int}(h0:0<=k)(hk:k<=1000001)(g0:0<=m)(hm:m<=1000001)(h:jR [k,m]<=1000000):jR [k,m]=1+(k+m):=by
 have h1:=(yu [k,m] (by simp;omega)).1;unfold jR at h⊢;have h2:=Gl (a:=1) h1 h;rw[h2,Gl g0 (by omega)]
theorem PS{T' T:jo}{at' kind k:Int}{mk:List jm->List jm}{dn:Dn}(o:Int)(f:FuncId)(he:kC e)(hT:lU T')(hk0:0<=k/\k<=1000001)(hke:k<=1000000->e.jw+1<=k)(hd:∀c into,dn.give c into=c.one o into e.does)
 (hm:∀b w,(method 576 T' (Pt b 0) "helm/lang.give").run prog w=.ok (f,Pt b 0) w)(hfe:Enters f)
 (hf:∀(a:Int)(b C:Nat)(w:jk)(T1:jo)(b1:Nat)(into s:Int)(P:jk->Prop),w.heap[b]? =some (.cells (Im a::Im k::Im kind::mk [.iface T1 (Pt b1 0)]).toArray T)->
   (∀n,Calls prog 368 #[Pt C 0,.int .u8 o,Im into,.iface T1 (Pt b1 0)] (w.drewN n) λen w'=>en=.returned (Im s)/\P w')->
   Calls prog f #[Pt b 0,Pt C 0,Im into] w λen w'=>en=.returned (Im s)/\P w'):
 kC (uZ T' T at' k kind (og (e.here e.at')) mk dn):=by
 have ec:=he.ok.jw;refine⟨JK hT (qW (he.ok.law _)) hk0,λc into=>?_,λc into hk=>?_,?_⟩
 .show(dn.give c into).1.jy=c.jy;rw[hd];exact aoR he o into
 .show((dn.give c into).1.code.length:Int)<=c.code.length+200 * k+50;have hk:=hk;have h1:=hke hk;rw[hd];have h2:=aoN (c:=c) he o into (by omega);omega
 rintro a w lo hi T1 b C c into ⟨b',us,hv,h1,h2,⟨u,rfl,hu⟩,hb⟩ hC hc hr;cases hv;obtain⟨T1,b1,rfl,_⟩:=he.ok.head _ _ _ _ _ hu;refine⟨f,hm b,hfe,?_⟩;have hk:=hr.jw;have hp:=hke hk;have hr:Room c k:=hr;show Calls prog f #[Pt b 0,Pt C 0,Im into] w λen w'=>en=.returned (Im (dn.give c into).2)/\kD w' C (dn.give c into).1/\Gk w w' C;rw[hd];refine hf a b C w T1 b1 into _ (λw'=>kD w' C (c.one o into e.does).1/\Gk w w' C) hb (λn=>?_);have g:=lK w n;refine(akL he ((he.ok.law _).gk hu (Gk.grown g hc.lt) (by omega)) (by omega) (hc.grow g) (hr.less (by omega)) o into).mono ?_;rintro en w' ⟨e1,e2,e3⟩;exact⟨e1,e2,(Gk.grown g hc.lt).trans e3⟩
theorem UR{T' T:jo}{at' kind:Int}{mk:List jm->List jm}{dn:Dn}(he:kC e)(hok:Iz (rE T' T at' (jR [e.jw]) kind (og (e.here e.at')) mk dn))(h:0<=jR [e.jw]/\jR [e.jw]<=1000001->(jR [e.jw]<=1000000->e.jw+1<=jR [e.jw])->kC (uZ T' T at' (jR [e.jw]) kind (og (e.here e.at')) mk dn)):kC (rE T' T at' (jR [e.jw]) kind (og (e.here e.at')) mk dn):=
 (h (qj he.ok.jw) (λhk=>by rw[yG he.ok.jw.1 he.ok.jw.2 hk];omega)).of hok (λ_ _ _ _ _ h=>JO (PO (he.ok.law _)) h) rfl rfl
theorem acz(he:kC e)(a0:Int)(k:Int)(hk0:0<=k/\k<=1000001)(hke:k<=1000000->e.jw+1<=k)(dn:Dn)(hd:∀c into,dn.give c into=c.one 27 into e.does):kC (uZ 395 397 a0 k 2 (og (e.here e.at')) (λus=>us) dn):=by
 refine PS 27 383 he (by simp[lU]) hk0 hke hd (λb w=>by kernel_rfl) (λargs w=>by kernel_rfl) ?_;intro a b C w T1 b1 into s P hb H1;have c3:=jK 3 hb rfl;have H1:=jA (H1 0);clear hb;go_enter func383,ntmps383;go_wp2_with fail;refine H1.out.mono ?_;rintro e1 w1 ⟨rfl,p1⟩;have HP:Hid (P w1):=p1;clear p1 H1;go_wp2_with fail;go_ret;exact⟨rfl,HP.out⟩
theorem acA(he:kC e)(a0:Int):kC (yZ a0 e):=UR he (vV (by simp[lU]) (qW (he.ok.law _)) (qj he.ok.jw)).base λh1 h2=>acz he a0 _ h1 h2 (acy e) λ_ _=>rfl
theorem ad5(he:kC e)(a0 kind:Int)(sign:ji)(k:Int)(hk0:0<=k/\k<=1000001)(hke:k<=1000000->e.jw+1<=k)(dn:Dn)(hd:∀c into,dn.give c into=c.one (if sign.data.toList==[45]then 8 else 9) into e.does):kC (uZ 379 381 a0 k kind (og (e.here e.at')) (λus=>.string sign::us) dn):=by
 cases hs:(sign.data.toList==[45])with
 |true=>
  have hs2:(sign.toList==[45])=true:=by rw[aZ];exact hs
  refine PS 8 366 he (by simp[lU]) hk0 hke (λ_ _=>by rw[hd,hs];rfl) (λb w=>by kernel_rfl) (λargs w=>by kernel_rfl) ?_;intro a b C w T1 b1 into s P hb H1;have c3:=jK 3 hb rfl;have c4:=jK 4 hb rfl;have H1:=jA (H1 0);clear hb hs;go_enter func366,ntmps366;go_wp2_with fail;refine H1.out.mono ?_;rintro e1 w1 ⟨rfl,p1⟩;have HP:Hid (P w1):=p1;clear p1 H1;go_wp2_with fail;go_ret;exact⟨rfl,HP.out⟩
 |false=>
  have hs2:(sign.toList==[45])=false:=by rw[aZ];exact hs
  refine PS 9 366 he (by simp[lU]) hk0 hke (λ_ _=>by rw[hd,hs];rfl) (λb w=>by kernel_rfl) (λargs w=>by kernel_rfl) ?_;intro a b C w T1 b1 into s P hb H1;have c3:=jK 3 hb rfl;have c4:=jK 4 hb rfl;have H1:=jA (H1 0);clear hb hs;go_enter func366,ntmps366;go_wp2_with fail;refine H1.out.mono ?_;rintro e1 w1 ⟨rfl,p1⟩;have HP:Hid (P w1):=p1;clear p1 H1;go_wp2_with fail;go_ret;exact⟨rfl,HP.out⟩
theorem Vy(he:kC e)(a0 kind:Int)(sign:ji):kC (oV a0 kind sign e):=UR he (vV (by simp[lU]) (qW (he.ok.law _)) (qj he.ok.jw)).base λh1 h2=>ad5 he a0 kind sign _ h1 h2 (ad4 kind sign e) λ_ _=>rfl
theorem aeM(he:kC e)(a0 kind owner:Int)(t:Wd)(k:Int)(hk0:0<=k/\k<=1000001)(hke:k<=1000000->e.jw+1<=k)(dn:Dn)(hd:∀c into,dn.give c into=c.one (xC t.text.data.toList) into e.does):kC (uZ 383 385 a0 k kind (og (e.here e.at')) (λus=>Im owner::us++[.string t.text,Im t.at']) dn):=by
 obtain⟨tt,ta⟩:=t;refine PS (xC tt.data.toList) 370 he (by simp[lU]) hk0 hke hd (λb w=>by kernel_rfl) (λargs w=>by kernel_rfl) ?_;intro a b C w T1 b1 into s P hb H1;have c4:=jK 4 hb rfl;have c5:=jK 5 hb rfl;have HO:=jA (λx=>apK tt x);have H1:=jA H1;clear hb;generalize xC tt.data.toList=o at *;go_enter func370,ntmps370;go_wp2_with fail;refine nP 12 (by kernel_rfl) (by kernel_rfl) ?_;simp only[aC,aO,aG,aQ];repeat (go_big_quiet_step ((go_at_call 372;exact dN (HO.out _))))
 refine bF ?_;intro _ hw';obtain⟨n3,hw''⟩:=hw';subst hw'';go_wp2_with fail;refine(H1.out _).mono ?_;rintro e1 w1 ⟨rfl,p1⟩;have HP:Hid (P w1):=p1;clear p1 H1;go_wp2_with fail;go_ret;exact⟨rfl,HP.out⟩
theorem aeO(he:kC e)(a0 kind owner:Int)(t:Wd):kC (vY a0 kind owner e t):=UR he (vV (by simp[lU]) (qW (he.ok.law _)) (qj he.ok.jw)).base λh1 h2=>aeM he a0 kind owner t _ h1 h2 (aeL kind owner e t) λ_ _=>rfl
theorem acV{T' T:jo}{at' kind k:Int}{mk:List jm->List jm}{dn:Dn}(o:Int)(sw:Bool)(f:FuncId)(hl:kC l)(hr:kC r)(hT:lU T')(hk0:0<=k/\k<=1000001)(hke:k<=1000000->l.jw+r.jw+1<=k)(hd:∀c into,dn.give c into=if sw then c.two o into r.does l.does else c.two o into l.does r.does)
 (hm:∀b w,(method 576 T' (Pt b 0) "helm/lang.give").run prog w=.ok (f,Pt b 0) w)(hfe:Enters f)
 (hf:∀(a:Int)(b C:Nat)(w:jk)(T1 T2:jo)(b1 b2:Nat)(into s:Int)(P:jk->Prop),w.heap[b]? =some (.cells (Im a::Im k::Im kind::mk [.iface T1 (Pt b1 0),.iface T2 (Pt b2 0)]).toArray T)->
   (∀n,Calls prog 361 (if sw then #[Pt C 0,.int .u8 o,Im into,.iface T2 (Pt b2 0),.iface T1 (Pt b1 0)]else #[Pt C 0,.int .u8 o,Im into,.iface T1 (Pt b1 0),.iface T2 (Pt b2 0)]) (w.drewN n) λen w'=>en=.returned (Im s)/\P w')->
   Calls prog f #[Pt b 0,Pt C 0,Im into] w λen w'=>en=.returned (Im s)/\P w'):
 kC (uZ T' T at' k kind (AP (l.here l.at') (r.here r.at')) mk dn):=by
 have lc:=hl.ok.jw;have rc:=hr.ok.jw;refine⟨JK hT (PV (hl.ok.law _) (hr.ok.law _)) hk0,λc into=>?_,λc into hk=>?_,?_⟩
 .show(dn.give c into).1.jy=c.jy;rw[hd];cases sw
  .exact agS hl hr o into
  .exact agS hr hl o into
 .show((dn.give c into).1.code.length:Int)<=c.code.length+200 * k+50;have hk:=hk;have h1:=hke hk;rw[hd];cases sw
  .have h2:=agR (c:=c) hl hr o into (by omega) (by omega);simp only[aH,cZ];omega
  .have h2:=agR (c:=c) hr hl o into (by omega) (by omega);simp only[dM];omega
 rintro a w lo hi T1 b C c into ⟨b',us,hv,h1,h2,⟨u,v,rfl,hu,hv2⟩,hb⟩ hC hc hr';cases hv;obtain⟨T1,b1,rfl,_⟩:=hl.ok.head _ _ _ _ _ hu;obtain⟨T2,b2,rfl,_⟩:=hr.ok.head _ _ _ _ _ hv2;refine⟨f,hm b,hfe,?_⟩;have hk:=hr'.jw;have hp:=hke hk;have hr':Room c k:=hr';show Calls prog f #[Pt b 0,Pt C 0,Im into] w λen w'=>en=.returned (Im (dn.give c into).2)/\kD w' C (dn.give c into).1/\Gk w w' C;rw[hd];refine hf a b C w T1 T2 b1 b2 into _ (λw'=>kD w' C (if sw then c.two o into r.does l.does else c.two o into l.does r.does).1/\Gk w w' C) hb (λn=>?_);have g:=lK w n;have gk:=Gk.grown g hc.lt;have u1:=(hl.ok.law _).gk hu gk (by omega);have u2:=(hr.ok.law _).gk hv2 gk (by omega);cases sw
 .refine(abq hl hr u1 u2 (by omega) (by omega) (hc.grow g) (hr'.less (by omega)) o into).mono ?_;rintro en w' ⟨e1,e2,e3⟩;exact⟨e1,e2,gk.trans e3⟩
 .refine(abq hr hl u2 u1 (by omega) (by omega) (hc.grow g) (hr'.less (by omega)) o into).mono ?_;rintro en w' ⟨e1,e2,e3⟩;exact⟨e1,e2,gk.trans e3⟩
theorem acW{T' T:jo}{at' kind:Int}{mk:List jm->List jm}{dn:Dn}(hl:kC l)(hr:kC r)(hok:Iz (rE T' T at' (jR [l.jw,r.jw]) kind (xY (l.here l.at') (r.here r.at')) mk dn))(h:0<=jR [l.jw,r.jw]/\jR [l.jw,r.jw]<=1000001->(jR [l.jw,r.jw]<=1000000->l.jw+r.jw+1<=jR [l.jw,r.jw])->kC (uZ T' T at' (jR [l.jw,r.jw]) kind (AP (l.here l.at') (r.here r.at')) mk dn)):kC (rE T' T at' (jR [l.jw,r.jw]) kind (xY (l.here l.at') (r.here r.at')) mk dn):=
 (h (rG hl.ok.jw hr.ok.jw) (λhk=>by rw[zU hl.ok.jw.1 hl.ok.jw.2 hr.ok.jw.1 hr.ok.jw.2 hk];omega)).of hok (λ_ _ _ _ _ h=>JO (acT (hl.ok.law _) (hr.ok.law _)) h) rfl rfl
theorem adZ(hl:kC l)(hr:kC r)(a0:Int)(k:Int)(hk0:0<=k/\k<=1000001)(hke:k<=1000000->l.jw+r.jw+1<=k)(dn:Dn)(hd:∀c into,dn.give c into=c.two 35 into l.does r.does):kC (uZ 398 400 a0 k 2 (AP (l.here l.at') (r.here r.at')) (λus=>us) dn):=by
 refine acV 35 false 386 hl hr (by simp[lU]) hk0 hke hd (λb w=>by kernel_rfl) (λargs w=>by kernel_rfl) ?_;intro a b C w T1 T2 b1 b2 into s P hb H1;have c3:=jK 3 hb rfl;have c4:=jK 4 hb rfl;have H1:=jA H1;clear hb;go_enter func386,ntmps386;go_wp2_with fail;refine nP 10 (by kernel_rfl) (by kernel_rfl) ?_;simp only[aC,aO,aG,aQ];repeat (go_big_quiet_step (fail))
 refine bF ?_;intro _ hw';obtain⟨n3,hw''⟩:=hw';subst hw'';go_wp2_with fail;refine(H1.out _).mono ?_;rintro e1 w1 ⟨rfl,p1⟩;have HP:Hid (P w1):=p1;clear p1 H1;go_wp2_with fail;go_ret;exact⟨rfl,HP.out⟩
theorem ad1(hl:kC l)(hr:kC r)(a0:Int):kC (x9 a0 l r):=acW hl hr (vV (by simp[lU]) (wJ (hl.ok.law _) (hr.ok.law _)) (rG hl.ok.jw hr.ok.jw)).base λh1 h2=>adZ hl hr a0 _ h1 h2 (adY l r) λ_ _=>rfl
def lF(sign:List UInt8):Int×Bool:=if sign==[62]then (15,true)else if sign==[62,61]then (16,true)else (vC sign,false)
theorem abz{sign:ji}{a jw kind:Int}{b:Nat}{u v:jm}(hb:w.heap[b]? =some (.cells (Im a::Im jw::Im kind::[.string sign,u,v]).toArray 376)):
 Calls prog 358 #[Pt b 0] w λen w'=>en=.returned (.tuple #[.int .u8 (lF sign.data.toList).1,if (lF sign.data.toList).2 then v else u,if (lF sign.data.toList).2 then u else v])/\∃n,w'=w.drewN n:=by
 have c3:=jK 3 hb rfl;have c4:=jK 4 hb rfl;have c5:=jK 5 hb rfl;have HO:=jA (λx=>asE sign x);clear hb;unfold lF;cases hs:(sign.data.toList==[62])with
 |true=>
  have hs2:(sign.toList==[62])=true:=by rw[aZ];exact hs
  clear hs;simp only[dM];go_enter func358,ntmps358;go_wp2_with fail;go_quiet (fail);go_wp2_with fail;exact cu (by simp[results,Tryz.results358,go_sem]) rfl ⟨rfl,_,rfl⟩
 |false=>
  have hs2:(sign.toList==[62])=false:=by rw[aZ];exact hs
  clear hs;simp only[aH,cZ];cases ht:(sign.data.toList==[62,61])with
  |true=>
   have ht2:(sign.toList==[62,61])=true:=by rw[aZ];exact ht
   clear ht;simp only[dM];go_enter func358,ntmps358;go_wp2_with fail;go_quiet (fail);go_wp2_with fail;exact cu (by simp[results,Tryz.results358,go_sem]) rfl ⟨rfl,_,rfl⟩
  |false=>
   have ht2:(sign.toList==[62,61])=false:=by rw[aZ];exact ht
   clear ht;simp only[aH,cZ];generalize vC sign.data.toList=o at *;go_enter func358,ntmps358;go_wp2_with fail;go_quiet ((go_at_call 363;exact dN (HO.out _)));go_wp2_with fail;exact cu (by simp[results,Tryz.results358,go_sem]) rfl ⟨rfl,_,rfl⟩
theorem agN(hl:kC l)(hr:kC r)(a0 kind:Int)(sign:ji)(k:Int)(hk0:0<=k/\k<=1000001)(hke:k<=1000000->l.jw+r.jw+1<=k)(dn:Dn)(hd:∀c into,dn.give c into=(Xe kind sign l r).give c into):kC (uZ 374 376 a0 k kind (AP (l.here l.at') (r.here r.at')) (λus=>.string sign::us) dn):=by
 refine acV (lF sign.data.toList).1 (lF sign.data.toList).2 354 hl hr (by simp[lU]) hk0 hke (λc into=>(hd c into).trans ?_) (λb w=>by kernel_rfl) (λargs w=>by kernel_rfl) ?_
 .show(if sign.data.toList==[62]then c.two 15 into r.does l.does else if sign.data.toList==[62,61]then c.two 16 into r.does l.does else c.two (vC sign.data.toList) into l.does r.does)=_;unfold lF;split
  .rfl
  .split<;>rfl
 intro a b C w T1 T2 b1 b2 into s P hb H1;have HW:=jA (abz hb);clear hb;generalize lF sign.data.toList=wk at *;obtain⟨o,sw⟩:=wk;simp only at HW H1;cases sw
 .simp only[aH,cZ]at HW H1;have H1:=jA H1;go_enter func354,ntmps354;go_wp2_with fail;refine HW.out.mono ?_;rintro e1 w1 ⟨rfl,n,rfl⟩;go_wp2_with fail;refine(H1.out _).mono ?_;rintro e1 w1 ⟨rfl,p1⟩;have HP:Hid (P w1):=p1;clear p1 H1;go_wp2_with fail;go_ret;exact⟨rfl,HP.out⟩
 .simp only[dM]at HW H1;have H1:=jA H1;go_enter func354,ntmps354;go_wp2_with fail;refine HW.out.mono ?_;rintro e1 w1 ⟨rfl,n,rfl⟩;go_wp2_with fail;refine(H1.out _).mono ?_;rintro e1 w1 ⟨rfl,p1⟩;have HP:Hid (P w1):=p1;clear p1 H1;go_wp2_with fail;go_ret;exact⟨rfl,HP.out⟩
theorem agP(hl:kC l)(hr:kC r)(a0 kind:Int)(sign:ji):kC (kK a0 kind sign l r):=acW hl hr (vV (by simp[lU]) (wJ (hl.ok.law _) (hr.ok.law _)) (rG hl.ok.jw hr.ok.jw)).base λh1 h2=>agN hl hr a0 kind sign _ h1 h2 (Xe kind sign l r) λ_ _=>rfl
end
end
end Go.Proofs.YthllhabjfchgiaaGreatDoor
