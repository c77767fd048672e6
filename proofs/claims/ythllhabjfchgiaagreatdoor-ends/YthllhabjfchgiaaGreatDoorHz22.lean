import Derived.Test.YthllhabjfchgiaaGreatDoorHz21
import Derived.Laws.Bits64
set_option maxRecDepth 100000
set_option maxHeartbeats 8000000
namespace Go.Proofs.YthllhabjfchgiaaGreatDoor
open _root_.Go.Proofs.Tryz
section
open Go.RowKit Hx
attribute [local go_sem ↓] Go.wp_at_zero Go.wp_at_succ
attribute [local go_sem] bT
section
variable {B:Nat}{w:World}{v:Value}
theorem Va:(prog.info? 5).map (fun i=>(i.zero,i.size,i.bytes))=some (some (.int .u8 0),1,1):=by kernel_rfl
def nD(l:List Int):List Value:=l.map (Value.int .u8)
theorem ajF(x:Nat)(h:x<18446744073709551616):(18446744073709551615^^^x:Nat)=18446744073709551615-x:=by
 have h1:=congrArg BitVec.toNat (BitVec.allOnes_xor (x:=BitVec.ofNat 64 x));rw[BitVec.toNat_xor,BitVec.toNat_not,BitVec.toNat_allOnes,BitVec.toNat_ofNat,Nat.mod_eq_of_lt h]at h1;simpa using h1
theorem YM(n:Int):IntKind.u64.wrap (IntKind.u64.wrap n * 2)=(2 * n)%18446744073709551616:=by
 show(n%18446744073709551616 * 2)%18446744073709551616=(2 * n)%18446744073709551616;omega
theorem ajH(n:Int)(h:¬n<0):IntKind.u64.wrap (IntKind.u64.wrap n * 2)=((wL n:Nat):Int):=by
 rw[YM];unfold wL;rw[if_neg h];omega
theorem ajG(n:Int)(h:n<0):bits BinOp.xor IntKind.u64 IntKind.u64.max (IntKind.u64.wrap (IntKind.u64.wrap n * 2))=((wL n:Nat):Int):=by
 rw[YM];unfold wL;rw[if_pos h];have e1:(2 * n)%18446744073709551616=(((2 * n)%18446744073709551616).toNat:Int):=by omega
 have e2:IntKind.u64.max=((18446744073709551615:Nat):Int):=rfl;have hlt:((2 * n)%18446744073709551616).toNat<18446744073709551616:=by omega
 rw[e1,e2,bits_xor_u64_nat _ _ (by decide) hlt,ajF _ hlt];omega
theorem WB(r:Nat):bits BinOp.or IntKind.u8 ((r:Int)%256) 128=((r%128+128:Nat):Int):=by
 have h:∀k:Fin 256,bits .or .u8 (k.val:Int) 128=((k.val%128+128:Nat):Int):=by decide+kernel
 have h1:=h ⟨r%256,by omega⟩;simp only at h1;have e:((r%256:Nat):Int)=(r:Int)%256:=by omega
 rw[e]at h1;rw[h1];omega
structure sN(B:Nat)(w wr:World)(v0 v:Value)(m':Nat)(ys:List Value)(rr gg:Nat)(all:List Value):Prop where
 row:wr.ownsRow B 5 1 v m' ys
 grown:w.grownBy wr v0.ownBlock
 own:∀g,v.ownBlock=some g->v0.ownBlock=some g\/w.heap.size<=g
 bd:rr<2 * 128^gg
 len:m'+gg<=1100000000
 eq:ys++nD (zJ gg rr)=all
theorem Qp{n:Nat}{T:TypeId}{k:Nat}{us:List Value}(h:w.ownsRow B T k v n us):∃a cap,v=.slice a n cap:=by
 rcases h with⟨_,⟨h2,h3⟩|⟨g,cap,cur,h2,_⟩⟩
 .subst h3;exact⟨_,_,h2⟩
 .exact⟨_,_,h2⟩
theorem sN.more{wr w2:World}{v0:Value}{a1:Option Addr}{m' c1 rr gk g cap:Nat}{ys all:List Value}(h:sN B w wr v0 (.slice a1 m' c1) m' ys rr (gk+1) all)(h128:128<=rr){o:Obj}
 (hown:w2.ownsRow B 5 1 (.slice (some (Ad g 0)) (m'+1) cap) (m'+1) (ys++[.int .u8 ((rr%128+128:Nat):Int)]))(hgr:(wr.alloc o).grownBy w2 (Value.slice a1 m' c1).ownBlock)(hat:(Value.slice a1 m' c1).ownBlock=some g\/g=wr.heap.size+1):
 sN B w w2 v0 (.slice (some (Ad g 0)) (m'+1) cap) (m'+1) (ys++[.int .u8 ((rr%128+128:Nat):Int)]) (rr/128) gk all:=by
 have hs:=h.grown.size;refine⟨hown,(h.grown.trans (World.grownBy_alloc wr o _)).andThen hgr (fun j ej=>?_),fun k hk=>?_,?_,by have:=h.len;omega,?_⟩
 .rcases h.own j ej with e|e
  .exact Or.inr e
  .exact Or.inl e
 .simp only[Value.ownBlock,Option.some.injEq]at hk;subst hk;rcases hat with e|e
  .exact h.own g e
  .right;omega
 .have:=h.bd;rw[Nat.pow_succ]at this;omega
 .have h1:=h.eq;unfold zJ at h1;rw[if_pos h128]at h1;simpa [nD]using h1
theorem sN.last{wr w2:World}{v0:Value}{a1:Option Addr}{m' c1 rr gk g cap m0:Nat}{ys all:List Value}(h:sN B w wr v0 (.slice a1 m' c1) m' ys rr gk all)(h128:rr<128){o:Obj}(hm0:all.length=m0)
 (hown:w2.ownsRow B 5 1 (.slice (some (Ad g 0)) (m'+1) cap) (m'+1) (ys++[.int .u8 (rr:Int)]))(hgr:(wr.alloc o).grownBy w2 (Value.slice a1 m' c1).ownBlock)(hat:(Value.slice a1 m' c1).ownBlock=some g\/g=wr.heap.size+1):
 m'+1=m0/\w2.ownsRow B 5 1 (.slice (some (Ad g 0)) m0 cap) m0 all/\w.grownBy w2 v0.ownBlock/\(v0.ownBlock=some g\/w.heap.size<=g):=by
 have hs:=h.grown.size;have he:zJ gk rr=[(rr:Int)]:=by
  cases gk with
  |zero=>rfl
  |succ k=>unfold zJ;rw[if_neg (by omega)]
 have h1:=h.eq;rw[he]at h1;have h2:ys++[.int .u8 (rr:Int)]=all:=h1;rw[h2]at hown;have hlen:m'+1=m0:=by
  have h3:=h.row.1;rw[<-hm0,<-h2];simp only[List.length_append,List.length_cons,List.length_nil];omega
 subst hlen;refine⟨rfl,hown,(h.grown.trans (World.grownBy_alloc wr o _)).andThen hgr (fun j ej=>?_),?_⟩
 .rcases h.own j ej with e|e
  .exact Or.inr e
  .exact Or.inl e
 .rcases hat with e|e
  .exact h.own g e
  .right;omega
theorem ZU(xs:List Value)(m:Nat)(n:Int)(hrow:w.ownsRow B 5 1 v m xs)(hB:B<=w.heap.size)(hm:m<=1000000000):
 Calls prog 144 #[v,Im n] w fun e w'=>∃g cap,e=.returned (.slice (some (Ad g 0)) (m+(nY n).length) cap)/\w'.ownsRow B 5 1 (.slice (some (Ad g 0)) (m+(nY n).length) cap) (m+(nY n).length) (xs++nD (nY n))/\w.grownBy w' v.ownBlock/\(v.ownBlock=some g\/w.heap.size<=g):=by
 obtain⟨i0,hi,hz0,hz1,hz2⟩:=info_parts Va;obtain⟨a,cp,rfl⟩:=Qp hrow;have hz:wL n<2 * 128^9:=by unfold wL;split<;>omega
 have HO:Hid (sN B w w (.slice a m cp) (.slice a m cp) m xs (wL n) 9 (xs++nD (nY n))):=⟨hrow,World.grownBy.refl _ _,fun g h=>Or.inl h,hz,by omega,rfl⟩;have hl0:(xs++nD (nY n)).length=m+(nY n).length:=by
  have:=hrow.1;simp only[List.length_append,nD,List.length_map];omega
 have Ro:Hid ((xs++nD (nY n)).length=m+(nY n).length):=hl0;clear hrow hl0;generalize xs++nD (nY n)=all at *;generalize m+(nY n).length=m0 at *;by_cases hn:n<0
 .have d0:decide (n<0)=true:=by simpa using hn
  have HZ:Hid (bits BinOp.xor IntKind.u64 IntKind.u64.max (IntKind.u64.wrap (IntKind.u64.wrap n * 2))=((wL n:Nat):Int)):=ajG n hn;go_enter func144,ntmps144;go_wp2_with fail;go_loopg [0,5] 9 (fun gg v r wr=>Hid (∃m' ys rr,r=.int .u64 ((rr:Nat):Int)/\sN B w wr (.slice a m cp) v m' ys rr gg all))
  case atStart=>exact⟨m,xs,wL n,by rw[HZ.out],HO.out⟩
  case round=>
   obtain⟨m',ys,rr,hr,hI⟩:=hrel.out;clear hrel HO HZ;subst hr;obtain⟨a1,c1,rfl⟩:=Qp hI.row;have hl:=hI.len;have hbd:=hI.bd;have hB2:B<=wr.heap.size:=Nat.le_trans hB hI.grown.size;have qI:Hid (∀o,(wr.alloc o).ownsRow B 5 1 (.slice a1 m' c1) m' ys):=fun o=>hI.row.alloc o;by_cases h128:128<=rr
   .have d1:decide ((128:Int)<=(rr:Int))=true:=by simp;omega
    obtain⟨gk',rfl⟩:∃g',gk=g'+1:=by
     cases gk with
     |zero=>rw[Nat.pow_zero]at hbd;omega
     |succ g'=>exact⟨g',rfl⟩
    have HI:Hid (sN B w wr (.slice a m cp) (.slice a1 m' c1) m' ys rr (gk'+1) all):=hI;obtain⟨bt,hor⟩:∃bt,bits BinOp.or IntKind.u8 ((rr:Int)%256) 128=bt:=⟨_,rfl⟩;have FM:Hid (bt=((rr%128+128:Nat):Int)):=hor.symm.trans (WB rr);clear hI hbd;go_wp2_with (at_builtin;refine wpList_append_lies _ rfl _ _ 194 rfl B 5 i0 (.int .u8 0) 1 1 Tryz.underlying194 hi hz0 hz1 hz2 rfl (by decide) (.slice a1 m' c1) m' ys rfl (qI.out _) (Ad wr.heap.size 0) 1 1 [.int .u8 bt] rfl rfl (cell_one_new _ _ _) (by simp[Value.oneCell']) (by decide) (by unfold maxLen;omega) (by omega) (by simp;omega) (wr.heap.size+1) (by simp) ?_;intro g cap w2 hown hgr hat hlt);rw[FM.out]at hown;have HN:Hid (sN B w w2 (.slice a m cp) (.slice (some (Ad g 0)) (m'+1) cap) (m'+1) (ys++[.int .u8 ((rr%128+128:Nat):Int)]) (rr/128) gk' all):=HI.out.more h128 hown hgr hat;clear hown hgr hat HI qI FM;go_roundg gk'
    case measure=>omega
    case rel=>exact⟨m'+1,_,rr/128,congrArg (Value.int .u64) (by omega),HN.out⟩
   .have d1:decide ((128:Int)<=(rr:Int))=false:=by simp;omega
    have HI:Hid (sN B w wr (.slice a m cp) (.slice a1 m' c1) m' ys rr gk all):=hI;have hmod:(rr:Int)%256=(rr:Int):=by omega
    clear hI hbd;go_wp2_with (at_builtin;refine wpList_append_lies _ rfl _ _ 194 rfl B 5 i0 (.int .u8 0) 1 1 Tryz.underlying194 hi hz0 hz1 hz2 rfl (by decide) (.slice a1 m' c1) m' ys rfl (qI.out _) (Ad wr.heap.size 0) 1 1 [.int .u8 (rr:Int)] rfl rfl (cell_one_new _ _ _) (by simp[Value.oneCell']) (by decide) (by unfold maxLen;omega) (by omega) (by simp;omega) (wr.heap.size+1) (by simp) ?_;intro g cap w2 hown hgr hat hlt);have hX:=HI.out.last (by omega) Ro.out hown hgr hat;have HN:Hid (m'+1=m0/\w2.ownsRow B 5 1 (.slice (some (Ad g 0)) m0 cap) m0 all/\w.grownBy w2 (Value.slice a m cp).ownBlock/\((Value.slice a m cp).ownBlock=some g\/w.heap.size<=g)):=hX;clear hown hgr hat HI qI hX;go_ret;exact⟨g,cap,by rw[HN.out.1];rfl,HN.out.2⟩
 .have d0:decide (n<0)=false:=by simpa using hn
  have HZ:Hid (IntKind.u64.wrap (IntKind.u64.wrap n * 2)=((wL n:Nat):Int)):=ajH n hn;go_enter func144,ntmps144;go_wp2_with fail;go_loopg [0,5] 9 (fun gg v r wr=>Hid (∃m' ys rr,r=.int .u64 ((rr:Nat):Int)/\sN B w wr (.slice a m cp) v m' ys rr gg all))
  case atStart=>exact⟨m,xs,wL n,by rw[HZ.out],HO.out⟩
  case round=>
   obtain⟨m',ys,rr,hr,hI⟩:=hrel.out;clear hrel HO HZ;subst hr;obtain⟨a1,c1,rfl⟩:=Qp hI.row;have hl:=hI.len;have hbd:=hI.bd;have hB2:B<=wr.heap.size:=Nat.le_trans hB hI.grown.size;have qI:Hid (∀o,(wr.alloc o).ownsRow B 5 1 (.slice a1 m' c1) m' ys):=fun o=>hI.row.alloc o;by_cases h128:128<=rr
   .have d1:decide ((128:Int)<=(rr:Int))=true:=by simp;omega
    obtain⟨gk',rfl⟩:∃g',gk=g'+1:=by
     cases gk with
     |zero=>rw[Nat.pow_zero]at hbd;omega
     |succ g'=>exact⟨g',rfl⟩
    have HI:Hid (sN B w wr (.slice a m cp) (.slice a1 m' c1) m' ys rr (gk'+1) all):=hI;obtain⟨bt,hor⟩:∃bt,bits BinOp.or IntKind.u8 ((rr:Int)%256) 128=bt:=⟨_,rfl⟩;have FM:Hid (bt=((rr%128+128:Nat):Int)):=hor.symm.trans (WB rr);clear hI hbd;go_wp2_with (at_builtin;refine wpList_append_lies _ rfl _ _ 194 rfl B 5 i0 (.int .u8 0) 1 1 Tryz.underlying194 hi hz0 hz1 hz2 rfl (by decide) (.slice a1 m' c1) m' ys rfl (qI.out _) (Ad wr.heap.size 0) 1 1 [.int .u8 bt] rfl rfl (cell_one_new _ _ _) (by simp[Value.oneCell']) (by decide) (by unfold maxLen;omega) (by omega) (by simp;omega) (wr.heap.size+1) (by simp) ?_;intro g cap w2 hown hgr hat hlt);rw[FM.out]at hown;have HN:Hid (sN B w w2 (.slice a m cp) (.slice (some (Ad g 0)) (m'+1) cap) (m'+1) (ys++[.int .u8 ((rr%128+128:Nat):Int)]) (rr/128) gk' all):=HI.out.more h128 hown hgr hat;clear hown hgr hat HI qI FM;go_roundg gk'
    case measure=>omega
    case rel=>exact⟨m'+1,_,rr/128,congrArg (Value.int .u64) (by omega),HN.out⟩
   .have d1:decide ((128:Int)<=(rr:Int))=false:=by simp;omega
    have HI:Hid (sN B w wr (.slice a m cp) (.slice a1 m' c1) m' ys rr gk all):=hI;have hmod:(rr:Int)%256=(rr:Int):=by omega
    clear hI hbd;go_wp2_with (at_builtin;refine wpList_append_lies _ rfl _ _ 194 rfl B 5 i0 (.int .u8 0) 1 1 Tryz.underlying194 hi hz0 hz1 hz2 rfl (by decide) (.slice a1 m' c1) m' ys rfl (qI.out _) (Ad wr.heap.size 0) 1 1 [.int .u8 (rr:Int)] rfl rfl (cell_one_new _ _ _) (by simp[Value.oneCell']) (by decide) (by unfold maxLen;omega) (by omega) (by simp;omega) (wr.heap.size+1) (by simp) ?_;intro g cap w2 hown hgr hat hlt);have hX:=HI.out.last (by omega) Ro.out hown hgr hat;have HN:Hid (m'+1=m0/\w2.ownsRow B 5 1 (.slice (some (Ad g 0)) m0 cap) m0 all/\w.grownBy w2 (Value.slice a m cp).ownBlock/\((Value.slice a m cp).ownBlock=some g\/w.heap.size<=g)):=hX;clear hown hgr hat HI qI hX;go_ret;exact⟨g,cap,by rw[HN.out.1];rfl,HN.out.2⟩
end
end
namespace Hx
open Go.RowKit
abbrev rM:=World->Nat->Nat->Value->Prop
structure Lawful(E:rM):Prop where
 loc:∀w w' lo hi v,E w lo hi v->(∀b,lo<=b->b<hi->w'.heap[b]? =w.heap[b]?)->E w' lo hi v
 wide:∀w lo hi lo' hi' v,E w lo hi v->lo'<=lo->hi<=hi'->E w lo' hi' v
abbrev Kids:=World->Nat->Nat->List Value->Prop
structure yh(K:Kids):Prop where
 loc:∀w w' lo hi us,K w lo hi us->(∀b,lo<=b->b<hi->w'.heap[b]? =w.heap[b]?)->K w' lo hi us
 wide:∀w lo hi lo' hi' us,K w lo hi us->lo'<=lo->hi<=hi'->K w lo' hi' us
def yP:Kids:=fun _ _ _ us=>us=[]
def nU(E:rM):Kids:=fun w lo hi us=>∃u,us=[u]/\E w lo hi u
def rX(E F:rM):Kids:=fun w lo hi us=>∃m u v,us=[u,v]/\lo<=m/\m<=hi/\E w lo m u/\F w m hi v
theorem Ac:yh yP:=⟨fun _ _ _ _ _ h _=>h,fun _ _ _ _ _ _ h _ _=>h⟩
theorem uJ{E:rM}(h:Lawful E):yh (nU E):=
 ⟨fun _ _ _ _ _ ⟨u,e,hu⟩ hk=>⟨u,e,h.loc _ _ _ _ _ hu hk⟩,fun _ _ _ _ _ _ ⟨u,e,hu⟩ h1 h2=>⟨u,e,h.wide _ _ _ _ _ _ hu h1 h2⟩⟩
theorem tu{E F:rM}(h:Lawful E)(k:Lawful F):yh (rX E F):=
 ⟨fun _ _ _ _ _ ⟨m,u,v,e,h1,h2,hu,hv⟩ hk=>⟨m,u,v,e,h1,h2,h.loc _ _ _ _ _ hu (fun b b1 b2=>hk b b1 (by omega)),k.loc _ _ _ _ _ hv (fun b b1 b2=>hk b (by omega) b2)⟩,
  fun _ _ _ _ _ _ ⟨m,u,v,e,h1,h2,hu,hv⟩ l1 l2=>⟨m,u,v,e,by omega,by omega,h.wide _ _ _ _ _ _ hu l1 (Nat.le_refl _),k.wide _ _ _ _ _ _ hv (Nat.le_refl _) l2⟩⟩
structure Ex where
 at':Int
 aj:Int
 here:Int->rM
 does:Dn
end Hx
section
open Go.RowKit Hx
attribute [local go_sem ↓] Go.wp_at_zero Go.wp_at_succ
attribute [local go_sem] bT
def lD(T:TypeId):Prop:=T∈[405,392,386,389,395,379,374,383,398,410,413]
theorem lD.mQ{T:TypeId}(h:lD T)(A:Nat)(w:World):(method 576 T (Pt A 0) "helm/lang.price").run prog w=.ok (244,Pt A 0) w:=by
 simp only[lD,List.mem_cons,List.not_mem_nil,or_false]at h;rcases h with rfl|rfl|rfl|rfl|rfl|rfl|rfl|rfl|rfl|rfl|rfl<;>kernel_rfl
theorem lD.rF{T:TypeId}(h:lD T)(A:Nat)(w:World):(method 576 T (Pt A 0) "helm/lang.widen").run prog w=.ok (357,Pt A 0) w:=by
 simp only[lD,List.mem_cons,List.not_mem_nil,or_false]at h;rcases h with rfl|rfl|rfl|rfl|rfl|rfl|rfl|rfl|rfl|rfl|rfl<;>kernel_rfl
theorem lD.sort{T:TypeId}(h:lD T)(A:Nat)(w:World):(method 576 T (Pt A 0) "helm/lang.sort").run prog w=.ok (356,Pt A 0) w:=by
 simp only[lD,List.mem_cons,List.not_mem_nil,or_false]at h;rcases h with rfl|rfl|rfl|rfl|rfl|rfl|rfl|rfl|rfl|rfl|rfl<;>kernel_rfl
theorem lD.place{T:TypeId}(h:lD T)(A:Nat)(w:World):(method 576 T (Pt A 0) "helm/lang.place").run prog w=.ok (312,Pt A 0) w:=by
 simp only[lD,List.mem_cons,List.not_mem_nil,or_false]at h;rcases h with rfl|rfl|rfl|rfl|rfl|rfl|rfl|rfl|rfl|rfl|rfl<;>kernel_rfl
structure cZ(e:Ex):Prop where
 law:∀a,Lawful (e.here a)
 head:∀a w lo hi v,e.here a w lo hi v->∃T b,v=.iface T (Pt b 0)/\lD T/\lo<=b/\b<hi/\w.cell? (Ad b 0)=some (Im a)/\w.cell? (Ad b 1)=some (Im e.aj)/\∀j,w.frozen? (Ad b j)=false
 rF:∀a a' w lo hi T b,e.here a w lo hi (.iface T (Pt b 0))->e.here a' (w.setCell (Ad b 0) (Im a')) lo hi (.iface T (Pt b 0))
 aj:0<=e.aj/\e.aj<=1000001
def lW(T' T:TypeId)(at' aj kind:Int)(K:Hx.Kids)(mk:List Value->List Value)(dn:Dn:={}):Ex:=
 ⟨at',aj,fun a w lo hi v=>∃b us,v=.iface T' (Pt b 0)/\lo<=b/\b<hi/\K w lo b us/\w.heap[b]? =some (.cells (Im a::Im aj::Im kind::mk us).toArray T),dn⟩
theorem vZ{T' T:TypeId}{at' aj kind:Int}{K:Hx.Kids}{mk:List Value->List Value}{dn:Dn}(hT:lD T')(hK:yh K)(hc:0<=aj/\aj<=1000001):cZ (lW T' T at' aj kind K mk dn):=by
 refine⟨fun a=>⟨?_,?_⟩,?_,?_,hc⟩
 .rintro w w' lo hi v ⟨b,us,hv,h1,h2,h3,h4⟩ hk;exact⟨b,us,hv,h1,h2,hK.loc _ _ _ _ _ h3 (fun b' b1 b2=>hk b' b1 (by omega)),(hk b h1 h2).trans h4⟩
 .rintro w lo hi lo' hi' v ⟨b,us,hv,h1,h2,h3,h4⟩ l1 l2;exact⟨b,us,hv,by omega,by omega,hK.wide _ _ _ _ _ _ h3 l1 (Nat.le_refl _),h4⟩
 .rintro a w lo hi v ⟨b,us,hv,h1,h2,h3,h4⟩;exact⟨T',b,hv,hT,h1,h2,aA h4,aA h4,fun j=>eu h4⟩
 .rintro a a' w lo hi T1 b1 ⟨b,us,hv,h1,h2,h3,h4⟩;cases hv;refine⟨b1,us,rfl,h1,h2,hK.loc _ _ _ _ _ h3 (fun b' _ b2=>Below.heap_setCell _ _ _ _ (by simp only;omega)),?_⟩;exact heap_setCell_same _ _ _ _ _ _ h4
end
namespace Hx
open Go.RowKit
structure Sx where
 at':Int
 aj:Int
 base:ByteArray
 of:Int
 aH:List (Wd×Ex)
def JE(d:Wd)(v:Value):List Value:=[.string d.text,Im d.at',v]
def oN(g:Nat):List (Wd×Ex)->World->Nat->Nat->List Value->Prop
 |[],_,_,_,us=>us=[]
 |b::bs,w,lo,hi,us=>∃l m u us',us=u::us'/\lo<=l/\l<=m/\m<=hi/\(g<l\/m<=g)/\b.2.here b.2.at' w l m u/\oN g bs w m hi us'
def qx:List (Wd×Ex)->List Value->List Value
 |b::bs,u::us=>JE b.1 u++qx bs us
 |_,_=>[]
def ag3(T:TypeId)(x:Sx)(S:Nat)(w:World)(lo hi:Nat)(fv:Value):Prop:=
 (x.aH=[]/\fv=Nl)\/
 ∃g cap m us arr,fv=.slice (some (Ad g 0)) x.aH.length cap/\S<g/\g<hi/\lo<=m/\S<m/\oN g x.aH w m hi us/\w.heap[g]? =some (.cells arr T)/\
  ∀(j:Nat)(v:Value),(qx x.aH us)[j]? =some v->arr[j]? =some v
def XJ(T T2:TypeId)(x:Sx):rM:=fun w lo hi v=>
 ∃S fv,v=Pt S 0/\lo<=S/\S<hi/\w.heap[S]? =some (.cells #[Im x.at',Im x.aj,.string x.base,Im x.of,fv] T)/\ag3 T2 x S w lo hi fv
theorem Em{g:Nat}:∀{bs:List (Wd×Ex)}{w w':World}{lo hi:Nat}{us:List Value},(∀b∈bs,∀a,Lawful (b.2.here a))->oN g bs w lo hi us->(∀b,lo<=b->b<hi->w'.heap[b]? =w.heap[b]?)->oN g bs w' lo hi us
 |[],_,_,_,_,_,_,h,_=>h
 |b::bs,_,_,_,_,_,hl,⟨l,m,u,us',h0,h1,h2,h3,h4,h5,h6⟩,hk=>
  ⟨l,m,u,us',h0,h1,h2,h3,h4,(hl b (List.mem_cons_self ..) _).loc _ _ _ _ _ h5 (fun k k1 k2=>hk k (by omega) (by omega)),Em (fun c hc=>hl c (List.mem_cons_of_mem _ hc)) h6 (fun k k1 k2=>hk k (by omega) k2)⟩
theorem JG{g:Nat}:∀{bs:List (Wd×Ex)}{w:World}{lo hi hi':Nat}{us:List Value},oN g bs w lo hi us->hi<=hi'->oN g bs w lo hi' us
 |[],_,_,_,_,_,h,_=>h
 |_::_,_,_,_,_,_,⟨l,m,u,us',h0,h1,h2,h3,h4,h5,h6⟩,hh=>⟨l,m,u,us',h0,h1,h2,by omega,h4,h5,JG h6 hh⟩
theorem Tj{g:Nat}:∀{bs:List (Wd×Ex)}{w:World}{lo l m hi:Nat}{us:List Value}{b:Wd×Ex}{u:Value},oN g bs w lo l us->b.2.here b.2.at' w l m u->lo<=l->l<=m->m<=hi->(g<l\/m<=g)->oN g (bs++[b]) w lo hi (us++[u])
 |[],_,_,l,m,_,us,b,u,h,hb,h1,h2,h3,hg=>by
  have h:us=[]:=h;subst h;exact⟨l,m,u,[],rfl,h1,h2,h3,hg,hb,rfl⟩
 |_::_,_,_,_,_,_,_,_,u,⟨l',m',v,us',h0,h1,h2,h3,h4,h5,h6⟩,hb,k1,k2,k3,hg=>by
  subst h0;exact⟨l',m',v,us'++[u],rfl,h1,h2,by omega,h4,h5,Tj h6 hb h3 k2 k3 hg⟩
theorem Ti{g g':Nat}:∀{bs:List (Wd×Ex)}{w:World}{lo hi:Nat}{us:List Value},oN g bs w lo hi us->hi<=g'->oN g' bs w lo hi us
 |[],_,_,_,_,h,_=>h
 |_::_,_,_,_,_,⟨l,m,u,us',h0,h1,h2,h3,_,h5,h6⟩,hh=>⟨l,m,u,us',h0,h1,h2,h3,Or.inr (by omega),h5,Ti h6 hh⟩
theorem IK{T T2:TypeId}{x:Sx}(hl:∀b∈x.aH,∀a,Lawful (b.2.here a)):Lawful (XJ T T2 x):=by
 constructor
 .rintro w w' lo hi v ⟨S,fv,hv,h1,h2,h3,h4⟩ hk;refine⟨S,fv,hv,h1,h2,(hk S h1 h2).trans h3,?_⟩;rcases h4 with h4|⟨g,cap,m,us,arr,k1,k2,k3,k4,k5,k6,k7,k8⟩
  .exact Or.inl h4
  .exact Or.inr ⟨g,cap,m,us,arr,k1,k2,k3,k4,k5,Em hl k6 (fun b b1 b2=>hk b (by omega) b2),(hk g (by omega) k3).trans k7,k8⟩
 .rintro w lo hi lo' hi' v ⟨S,fv,hv,h1,h2,h3,h4⟩ l1 l2;refine⟨S,fv,hv,by omega,by omega,h3,?_⟩;rcases h4 with h4|⟨g,cap,m,us,arr,k1,k2,k3,k4,k5,k6,k7,k8⟩
  .exact Or.inl h4
  .exact Or.inr ⟨g,cap,m,us,arr,k1,k2,by omega,by omega,k5,JG k6 l2,k7,k8⟩
end Hx
section
open Go.RowKit Hx
section
def dF(x:Sx):rM:=XJ 348 361 x
def kH(of:Int)(fs:List (Wd×Ex))(c:Ck):Ck:=fs.foldl (fun c b=>c.bracket b.1.text b.1.at' b.2.does b.2.at' of 2) c
def bZ(base:ByteArray):Int:=if base.data.toList==[70,82,69,83,72]then 1 else if base.data.toList==[65,71,65,73,78]then 2 else 0
def Hx.Co.aH(one:Int)(fs:List (Wd×Ex))(c:Co):Co:=fs.foldl (fun c b=>((c.inside b.1.text b.2.does one).1.lay 5 [(c.inside b.1.text b.2.does one).2]).dw c.free) c
def Hx.Co.open'(c:Co)(list:Int)(fs:List (Wd×Ex)):Co×Int:=(Co.aH c.hold.2 fs ((c.hold.1.lay 21 [c.hold.2,list]).lay 4 [list,c.hold.2,c.hold.2]),c.hold.2)
def Hx.Co.kN(c:Co)(list:Int)(fs:List (Wd×Ex)):Co×Int:=
 if fs.length=0 then (c.hold.1.lay 21 [c.hold.2,list],c.hold.2)
 else
  let o:=(c.hold.1.lay 6 [c.hold.2,0]).open' list fs
  (((o.1.lay 22 [c.hold.2,o.2]).lay 0 []).dw (wrap64 (c.hold.2+1)),c.hold.2)
def aeT(n:Int):Dn:=⟨fun _=>1,fun c=>c,fun c into=>((c.choose into).1.lay 6 [(c.choose into).2,n],(c.choose into).2)⟩
def aiY(kind:Int)(b:Bool):Dn:=⟨fun _=>kind,fun c=>c,fun c into=>((c.choose into).1.lay 6 [(c.choose into).2,if b then 1 else 0],(c.choose into).2)⟩
def agN(i:Int):Dn:=⟨fun _=>1,fun c=>c,fun c _=>(c,i)⟩
def aje(d:Wd):Dn:=⟨fun ns=>(fV ns d.text).kind,fun c=>if (fV c.au d.text).kind=0 then c.fail 2 d.at' else c,fun c _=>(c,c.uf d.text)⟩
def adq(e:Ex):Dn:=⟨fun _=>2,fun c=>if e.does.bY c.au=3 then e.does.look c else (e.does.look c).want (e.does.bY c.au) e.at' 4,fun c into=>c.one 27 into e.does⟩
def afb(kind:Int)(sign:ByteArray)(e:Ex):Dn:=⟨fun _=>kind,fun c=>(e.does.look c).want (e.does.bY c.au) e.at' kind,fun c into=>c.one (if sign.data.toList==[45]then 8 else 9) into e.does⟩
def uV(sign:ByteArray)(left:Int):Int:=if (lX sign.data.toList).1=0 then (if left=2 then 2 else 1)else (lX sign.data.toList).1
def ai3(kind:Int)(sign:ByteArray)(l r:Ex):Dn:=
 ⟨fun _=>kind,
  fun c=>
   let side:=uV sign (l.does.bY c.au)
   let c1:=(l.does.look c).want (l.does.bY c.au) l.at' side
   (r.does.look c1).want (r.does.bY c1.au) r.at' side,
  fun c into=>if sign.data.toList==[62]then c.two 15 into r.does l.does else if sign.data.toList==[62,61]then c.two 16 into r.does l.does else c.two (qW sign.data.toList) into l.does r.does⟩
def afU(kind owner:Int)(e:Ex)(d:Wd):Dn:=
 ⟨fun _=>kind,fun c=>(if owner=0 then (e.does.look c).fail 2 d.at' else e.does.look c).want (e.does.bY c.au) e.at' owner,fun c into=>c.one (uS d.text.data.toList) into e.does⟩
def ae7(l r:Ex):Dn:=
 ⟨fun _=>2,
  fun c=>
   let c1:=(l.does.look c).want (l.does.bY c.au) l.at' 4
   (r.does.look c1).want (r.does.bY c1.au) r.at' 3,
  fun c into=>c.two 35 into l.does r.does⟩
def ZY(kind:Int)(what:ByteArray)(x:Sx):Dn:=
 ⟨fun _=>kind,kH x.of x.aH,
  fun c into=>
   let f:=c.kN (bZ x.base) x.aH
   let k:=(f.1.dw c.free).choose into
   (k.1.lay (if what.data.toList==[99,111,117,110,116]then 23 else 24) [k.2,f.2],k.2)⟩
def Lh(kind:Int)(what:ByteArray)(x:Sx)(b:Wd×Ex):Dn:=
 ⟨fun _=>kind,
  fun c=>(kH x.of x.aH c).bracket b.1.text b.1.at' b.2.does b.2.at' x.of (if what.data.toList==[97,110,121]then 2 else 1),
  fun c _=>
   let answer:=c.hold.2
   let best:=c.hold.1.hold.2
   let o:=(c.hold.1.hold.1.lay 6 [answer,if kind=3\/kind=4 then -1 else 0]).open' (bZ x.base) x.aH
   let i:=o.1.inside b.1.text b.2.does o.2
   let m:=if what.data.toList==[109,105,110]then i.1.lay 25 [answer,best,o.2,i.2]else if what.data.toList==[109,97,120]then i.1.lay 26 [answer,best,o.2,i.2]
    else if what.data.toList==[115,117,109]then i.1.lay 10 [answer,answer,i.2]else if what.data.toList==[97,110,121]then i.1.lay 20 [answer,answer,i.2]else i.1
   ((m.lay 0 []).dw (wrap64 (answer+1)),answer)⟩
def xG(at' n:Int):Ex:=lW 405 407 at' 1 1 yP (fun _=>[Im n]) (aeT n)
def xP(at' aj kind:Int)(b:Bool):Ex:=lW 392 394 at' aj kind yP (fun _=>[.bool b]) (aiY kind b)
def Dz(at' i:Int):Ex:=lW 386 388 at' 1 1 yP (fun _=>[Im i]) (agN i)
def wK(at':Int)(d:Wd):Ex:=⟨at',1,fun a w lo hi v=>∃k,(lW 389 391 at' 1 k yP (fun _=>[.string d.text,Im d.at'])).here a w lo hi v,aje d⟩
def zW(at':Int)(e:Ex):Ex:=lW 395 397 at' (bD [e.aj]) 2 (nU (e.here e.at')) (fun us=>us) (adq e)
def uP(at' kind:Int)(sign:ByteArray)(e:Ex):Ex:=lW 379 381 at' (bD [e.aj]) kind (nU (e.here e.at')) (fun us=>.string sign::us) (afb kind sign e)
def qH(at' kind:Int)(sign:ByteArray)(l r:Ex):Ex:=lW 374 376 at' (bD [l.aj,r.aj]) kind (rX (l.here l.at') (r.here r.at')) (fun us=>.string sign::us) (ai3 kind sign l r)
def tV(at' kind owner:Int)(e:Ex)(d:Wd):Ex:=lW 383 385 at' (bD [e.aj]) kind (nU (e.here e.at')) (fun us=>Im owner::us++[.string d.text,Im d.at']) (afU kind owner e d)
def Ae(at':Int)(l r:Ex):Ex:=lW 398 400 at' (bD [l.aj,r.aj]) 2 (rX (l.here l.at') (r.here r.at')) (fun us=>us) (ae7 l r)
def Ci(kind:Int)(what:ByteArray)(x:Sx):Ex:=lW 410 412 x.at' (bD [x.aj]) kind (nU (dF x)) (fun us=>.string what::us) (ZY kind what x)
def Hx.Sx.round(x:Sx)(c:Int):Int:=dY [(if x.of=3 then 8 else 16) * dY [1,c]]
def tH(kind:Int)(what:ByteArray)(x:Sx)(b:Wd×Ex):Ex:=
 lW 413 415 x.at' (bD [x.aj,x.round b.2.aj]) kind (rX (dF x) (b.2.here b.2.at')) (fun us=>.string what::(us.take 1++[.string b.1.text,Im b.1.at']++us.drop 1)) (Lh kind what x b)
def qC:Ex:=xP 0 0 0 false
def Hx.Ex.rF(e:Ex)(a:Int):Ex:={e with at':=a}
def Hx.Sx.add(x:Sx)(b:Wd×Ex):Sx:={x with aH:=x.aH++[b],aj:=dY [x.aj,x.round b.2.aj]}
namespace Hx
section
variable (s:ByteArray)(ex:Ps->Ex×Ps)
def CY(p:Ps):Ex×Ps:=((ex (p.open' s [40])).1,(ex (p.open' s [40])).2.close s [41])
def pU(at':Int)(e:Ex)(p:Ps):Ex×Ps:=(Ae at' e (ex (p.open' s [40])).1,(ex (p.open' s [40])).2.close s [41])
def lG(p:Ps):(Wd×Ex)×Ps:=
 let d:=(p.open' s [40]).name s
 let e:=ex (d.2.expect s [58])
 ((d.1,e.1),e.2.close s [41])
def qg:Nat->Sx->Ps->(Sx×Bool)×Ps
 |0,x,p=>((x,false),p)
 |n+1,x,p=>if p.is [46]then
   (if (p.next s).is [102,105,108,116,101,114]then qg n (x.add (lG s ex ((p.next s).next s)).1) (lG s ex ((p.next s).next s)).2 else ((x,true),p.next s))
  else ((x,false),p)
def kR(n:Nat)(p:Ps):(Sx×Bool)×Ps:=match setOf p.k.text.data.toList with
 |some of=>qg s ex n ⟨p.k.at',1,p.k.text,of,[]⟩ (p.next s)
 |none=>((⟨p.k.at',1,p.k.text,4,[]⟩,false),p.fail)
def Gq(x:Sx)(kind:Int)(p:Ps):Ex×Ps:=(Ci kind p.k.text x,p.next s)
def Bg(x:Sx)(kind:Int)(p:Ps):Ex×Ps:=(tH kind p.k.text x (lG s ex (p.next s)).1,(lG s ex (p.next s)).2)
def Fj(x:Sx)(p:Ps):Ex×Ps:=
 if p.is [99,111,117,110,116]then Gq s x 1 p else if p.is [102,105,114,115,116]then Gq s x x.of p else if p.is [109,105,110]||p.is [109,97,120]then Bg s ex x x.of p
 else if p.is [115,117,109]then Bg s ex x 1 p else if p.is [97,110,121]then Bg s ex x 2 p else (qC,p.fail)
def yS(n:Nat)(p:Ps):Ex×Ps:=if (kR s ex n p).1.2 then Fj s ex (kR s ex n p).1.1 (kR s ex n p).2 else (qC,(kR s ex n p).2.fail)
def oL(n:Nat)(p:Ps):Ex×Ps:=
 if p.k.kind=3 then (xG p.k.at' ((Lib.atoi p.k.text.data.toList).getD 0),p.next s)
 else if p.k.kind=4 then (Dz p.k.at' ((p.k.text.data.toList.getD 1 0).toNat-48),p.next s)
 else if p.k.kind=2 then (wK p.k.at' ⟨p.k.text,p.k.at'⟩,p.next s)
 else if p.is [116,114,117,101]||p.is [102,97,108,115,101]then (xP p.k.at' 1 2 (p.is [116,114,117,101]),p.next s)
 else if p.is [40]then ((CY s ex p).1.rF p.k.at',(CY s ex p).2)
 else if p.is [105,115,110,111,110,101]then (zW p.k.at' (CY s ex (p.next s)).1,(CY s ex (p.next s)).2)
 else if (setOf p.k.text.data.toList).isSome then yS s ex n p
 else (qC,p.fail)
def qw(at':Int):Nat->Ex->Ps->Ex×Ps
 |0,e,p=>(e,p)
 |n+1,e,p=>if p.is [46]then
   (let d:=(p.next s).name s
    if d.1.text.data.toList==[111,110]&&d.2.is [40]then qw at' n (pU s ex at' e d.2).1 (pU s ex at' e d.2).2
    else qw at' n (tV at' (lU d.1.text.data.toList).2 (lU d.1.text.data.toList).1 e d.1) d.2)
  else (e,p)
def vO(n:Nat)(p:Ps):Ex×Ps:=qw s ex p.k.at' n (oL s ex n p).1 (oL s ex n p).2
def tJ(n:Nat):Nat->Ps->Ex×Ps
 |0,p=>vO s ex n p
 |m+1,p=>if p.is [45]then (uP p.k.at' 1 p.k.text (tJ n m (p.next s)).1,(tJ n m (p.next s)).2)
  else if p.is [33]then (uP p.k.at' 2 p.k.text (tJ n m (p.next s)).1,(tJ n m (p.next s)).2)else vO s ex n p
end
def pV(s:ByteArray)(lower:Ps->Ex×Ps)(of:Int)(at':Int):Nat->Ex->Ps->Ex×Ps
 |0,e,p=>(e,p)
 |n+1,e,p=>if lI p.k.text.data.toList=of then
   (let r:=lower (p.next s)
    let e':=qH at' (lX p.k.text.data.toList).2 p.k.text e r.1
    if of=2\/of=3 then (e',r.2)else pV s lower of at' n e' r.2)
  else (e,p)
def Bl(s:ByteArray)(ex:Ps->Ex×Ps)(n:Nat):Nat->Ps->Ex×Ps
 |0,p=>tJ s ex n n p
 |l+1,p=>pV s (Bl s ex n l) (5-l) p.k.at' n (Bl s ex n l p).1 (Bl s ex n l p).2
def pJ(s:ByteArray):Nat->Ps->Ex×Ps
 |0,p=>(qC,p.fail)
 |d+1,p=>Bl s (pJ s d) (s.size+1) 6 p
end Hx
end
end
namespace Hx
open Go.RowKit
section
def kL(p:Ps):Prop:=p.k.kind=0/\p.k.text=⟨#[]⟩
structure eP(s:ByteArray)(p q:Ps):Prop where
 ok:q.Ok s
 mono:p.k.at'<=q.k.at'
 keeps:kL q\/q.dp=p.dp
 bad:kL p->kL q
def Deep(d:Nat)(p:Ps):Prop:=kL p\/(0<=p.dp/\p.dp<=20/\21<=d+p.dp)
variable {s:ByteArray}{p q r:Ps}{d:Nat}
theorem eP.refl(h:p.Ok s):eP s p p:=⟨h,Int.le_refl _,Or.inr rfl,fun b=>b⟩
theorem eP.trans(h:eP s p q)(k:eP s q r):eP s p r:=
 ⟨k.ok,Int.le_trans h.mono k.mono,by
   rcases k.keeps with b|e
   .exact Or.inl b
   .rcases h.keeps with b|e'
    .exact Or.inl (k.bad b)
    .exact Or.inr (e.trans e'),fun b=>k.bad (h.bad b)⟩
theorem kL.fail(p:Ps):kL p.fail:=⟨rfl,rfl⟩
theorem kL.is(h:kL p){t:List UInt8}(ht:t≠[]):p.is t=false:=by
 unfold Ps.is;rw[h.2];cases t with
 |nil=>exact absurd rfl ht
 |cons a l=>rfl
theorem kL.expect(h:kL p){t:List UInt8}(ht:t≠[]):kL (p.expect s t):=by
 unfold Ps.expect;rw[h.is ht];exact kL.fail p
theorem kL.close(h:kL p){t:List UInt8}(ht:t≠[]):kL (p.close s t):=h.expect ht
theorem kL.open'(h:kL p){t:List UInt8}(ht:t≠[]):kL (p.open' s t):=by
 unfold Ps.open';split
 .exact kL.fail p
 .exact h.expect ht
theorem zN(h:p.Ok s):eP s p p.fail:=⟨h.fail,Int.le_refl _,Or.inl (kL.fail p),fun _=>kL.fail p⟩
theorem EW(h:p.Ok s):p.k.at'+p.k.text.size<=(p.next s).k.at':=by
 have h1:=(Qq s _ h.tok.bd).2;have h2:=h.tok.l9;show p.k.at'+(p.k.text.size:Int)<=(scan s (p.k.at'.toNat+p.k.text.size)).at';omega
theorem gq(h:p.Ok s)(hb:¬kL p):eP s p (p.next s):=
 ⟨h.next,by have:=EW h;omega,Or.inr rfl,fun b=>absurd b hb⟩
theorem kJ{t:List UInt8}(ht:t≠[])(h:p.is t=true):¬kL p:=fun b=>by rw[b.is ht]at h;cases h
theorem Du(h:p.k.kind≠0):¬kL p:=fun b=>h b.1
theorem rU(h:p.Ok s){t:List UInt8}(ht:t≠[]):eP s p (p.expect s t):=by
 unfold Ps.expect;split
 .rename_i hi;exact gq h (kJ ht hi)
 .exact zN h
theorem zO(h:p.Ok s):eP s p (p.name s).2:=by
 unfold Ps.name;split
 .rename_i hk;exact gq h (Du (by rw[hk];decide))
 .exact zN h
theorem EF(h:p.Ok s){t u:List UInt8}(ht:t≠[])(hu:u≠[])(hq:eP s (p.open' s t) r):eP s p (r.close s u):=by
 have hc:=rU hq.ok (t:=u) hu;refine⟨hq.ok.close u,?_,?_,fun b=>(hq.bad (b.open' ht)).close hu⟩
 .have h1:p.k.at'<=(p.open' s t).k.at':=by
   unfold Ps.open';split
   .exact Int.le_refl _
   .exact(rU h ht).mono
  exact Int.le_trans h1 (Int.le_trans hq.mono hc.mono)
 .rcases hc.keeps with b|e
  .exact Or.inl b
  .rcases hq.keeps with b|e'
   .exact Or.inl (b.close hu)
   .by_cases hd:p.dp=20
    .have hf:p.open' s t=p.fail:=by unfold Ps.open';rw[if_pos hd]
     refine Or.inl ((hq.bad ?_).close hu);rw[hf];exact kL.fail p
    .have hf:p.open' s t=(p.expect s t).CO:=by unfold Ps.open';rw[if_neg hd]
     rcases(rU h ht).keeps with b|e2
     .exact Or.inl ((hq.bad (by rw[hf];exact b)).close hu)
     .refine Or.inr ?_;show wrap64 ((r.expect s u).dp-1)=p.dp;rw[e,e',hf];show wrap64 (wrap64 ((p.expect s t).dp+1)-1)=p.dp;rw[e2];have:=h.dp;unfold aZ at this;unfold wrap64;omega
theorem Deep.dB(h:Deep d p)(k:eP s p q):Deep d q:=by
 rcases h with b|⟨h1,h2,h3⟩
 .exact Or.inl (k.bad b)
 .rcases k.keeps with b|e
  .exact Or.inl b
  .exact Or.inr (by rw[e];exact⟨h1,h2,h3⟩)
theorem Deep.open'(h:Deep (d+1) p)(ok:p.Ok s){t:List UInt8}(ht:t≠[]):Deep d (p.open' s t):=by
 rcases h with b|⟨h1,h2,h3⟩
 .exact Or.inl (b.open' ht)
 .by_cases hd:p.dp=20
  .left;unfold Ps.open';rw[if_pos hd];exact kL.fail p
  .have hf:p.open' s t=(p.expect s t).CO:=by unfold Ps.open';rw[if_neg hd]
   rw[hf];rcases(rU ok ht).keeps with b|e2
   .exact Or.inl b
   .right;show 0<=wrap64 ((p.expect s t).dp+1)/\wrap64 ((p.expect s t).dp+1)<=20/\21<=(d:Int)+wrap64 ((p.expect s t).dp+1);rw[e2];unfold wrap64;omega
end
end Hx
section
open Go.RowKit Hx
theorem P8(xs:List Int)(hx:∀x∈xs,0<=x/\x<=1000001):0<=bD xs/\bD xs<=1000001:=by
 unfold bD;have:=uY xs hx;exact uY _ (by simp;omega)
theorem yQ{a:Int}(h:0<=a/\a<=1000001):0<=bD [a]/\bD [a]<=1000001:=P8 _ (by simpa using h)
theorem Bo{a b:Int}(h:0<=a/\a<=1000001)(k:0<=b/\b<=1000001):0<=bD [a,b]/\bD [a,b]<=1000001:=P8 _ (by simp;exact⟨h,k⟩)
structure fM(x:Sx):Prop where
 aj:0<=x.aj/\x.aj<=1000001
 of:x.of=3\/x.of=4
 all:∀b∈x.aH,cZ b.2
theorem fM.law{x:Sx}(h:fM x):Lawful (dF x):=IK fun b hb a=>(h.all b hb).law a
theorem tY{x:Sx}{c:Int}(hc:0<=c/\c<=1000001):0<=x.round c/\x.round c<=1000001:=by
 have h1:=uY [1,c] (by simp;omega);unfold Hx.Sx.round;generalize dY [1,c]=y at *;unfold dY;simp only[List.foldl_cons,List.foldl_nil];split<;>omega
theorem fM.add{x:Sx}(h:fM x){b:Wd×Ex}(hb:cZ b.2):fM (x.add b):=by
 refine⟨uY _ (by have:=h.aj;have:=tY (x:=x) hb.aj;simp;omega),h.of,?_⟩;intro c hc;rcases List.mem_append.1 hc with hc|hc
 .exact h.all c hc
 .rw[List.mem_singleton.1 hc];exact hb
theorem PU(at' n:Int):cZ (xG at' n):=vZ (by simp[lD]) Ac (by omega)
theorem QL(at' kind:Int)(b:Bool):cZ (xP at' 1 kind b):=vZ (by simp[lD]) Ac (by omega)
theorem EZ:cZ qC:=vZ (by simp[lD]) Ac (by omega)
theorem Qj(at' n:Int):cZ (Dz at' n):=vZ (by simp[lD]) Ac (by omega)
theorem QT(at':Int)(d:Wd):cZ (wK at' d):=by
 have hk:∀k,cZ (lW 389 391 at' 1 k yP (fun _=>[.string d.text,Im d.at'])):=fun k=>vZ (by simp[lD]) Ac (by omega);refine⟨fun a=>⟨fun w w' lo hi v ⟨k,h⟩ hb=>⟨k,((hk k).law a).loc _ _ _ _ _ h hb⟩,fun w lo hi lo' hi' v ⟨k,h⟩ h1 h2=>⟨k,((hk k).law a).wide _ _ _ _ _ _ h h1 h2⟩⟩,fun a w lo hi v ⟨k,h⟩=>(hk k).head _ _ _ _ _ h,fun a a' w lo hi T b ⟨k,h⟩=>⟨k,(hk k).rF _ _ _ _ _ _ _ h⟩,?_⟩;show 0<=(1:Int)/\(1:Int)<=1000001;omega
theorem O5(at':Int){e:Ex}(h:cZ e):cZ (zW at' e):=vZ (by simp[lD]) (uJ (h.law _)) (yQ h.aj)
theorem Iq(at' kind:Int)(sign:ByteArray){e:Ex}(h:cZ e):cZ (uP at' kind sign e):=vZ (by simp[lD]) (uJ (h.law _)) (yQ h.aj)
theorem IZ(at' kind:Int)(sign:ByteArray){l r:Ex}(h:cZ l)(k:cZ r):cZ (qH at' kind sign l r):=vZ (by simp[lD]) (tu (h.law _) (k.law _)) (Bo h.aj k.aj)
theorem Iz(at' kind owner:Int){e:Ex}(h:cZ e)(d:Wd):cZ (tV at' kind owner e d):=vZ (by simp[lD]) (uJ (h.law _)) (yQ h.aj)
theorem PW(at':Int){l r:Ex}(h:cZ l)(k:cZ r):cZ (Ae at' l r):=vZ (by simp[lD]) (tu (h.law _) (k.law _)) (Bo h.aj k.aj)
theorem ND(kind:Int)(what:ByteArray){x:Sx}(h:fM x):cZ (Ci kind what x):=vZ (by simp[lD]) (uJ h.law) (yQ h.aj)
theorem PD(kind:Int)(what:ByteArray){x:Sx}(h:fM x){b:Wd×Ex}(k:cZ b.2):cZ (tH kind what x b):=vZ (by simp[lD]) (tu h.law (k.law _)) (Bo h.aj (tY k.aj))
theorem Q5{e:Ex}(h:cZ e)(a:Int):cZ (e.rF a):=⟨h.law,h.head,h.rF,h.aj⟩
section
def kY(s:ByteArray)(ex:Ps->Ex×Ps)(d:Nat):Prop:=∀p,p.Ok s->Deep d p->eP s p (ex p).2/\cZ (ex p).1
variable {s:ByteArray}{ex:Ps->Ex×Ps}{d:Nat}{p:Ps}
theorem KL(h:kY s ex d)(ok:p.Ok s)(hd:Deep (d+1) p):eP s p (CY s ex p).2/\cZ (CY s ex p).1:=by
 obtain⟨h1,h2⟩:=h _ (ok.open' [40]) (hd.open' ok (by simp));exact⟨EF ok (by simp) (by simp) h1,h2⟩
theorem Wn(h:kY s ex d)(ok:p.Ok s)(hd:Deep (d+1) p)(at':Int){e:Ex}(he:cZ e):eP s p (pU s ex at' e p).2/\cZ (pU s ex at' e p).1:=by
 obtain⟨h1,h2⟩:=h _ (ok.open' [40]) (hd.open' ok (by simp));exact⟨EF ok (by simp) (by simp) h1,PW at' he h2⟩
theorem JF(h:kY s ex d)(ok:p.Ok s)(hd:Deep (d+1) p):eP s p (lG s ex p).2/\cZ (lG s ex p).1.2:=by
 have o0:=ok.open' [40];have g1:=zO o0;have g2:=rU g1.ok (t:=[58]) (by simp);have g12:=g1.trans g2;obtain⟨h1,h2⟩:=h _ g2.ok ((hd.open' ok (by simp)).dB g12);exact⟨EF ok (by simp) (by simp) (g12.trans h1),h2⟩
theorem XM(h:kY s ex d):∀(n:Nat)(x:Sx)(p:Ps),fM x->p.Ok s->Deep (d+1) p->eP s p (qg s ex n x p).2/\fM (qg s ex n x p).1.1
 |0,x,p,hx,ok,_=>⟨eP.refl ok,hx⟩
 |n+1,x,p,hx,ok,hd=>by
  unfold qg;split
  .rename_i h1;have g1:=gq ok (kJ (by simp) h1);split
   .rename_i h2;have g2:=gq g1.ok (kJ (by simp) h2);have g12:=g1.trans g2;obtain⟨g3,e3⟩:=JF h g2.ok (hd.dB g12);have yG:=g12.trans g3;obtain⟨g4,e4⟩:=XM h n _ _ (hx.add e3) g3.ok (hd.dB yG);exact⟨yG.trans g4,e4⟩
   .exact⟨g1,hx⟩
  .exact⟨eP.refl ok,hx⟩
theorem Wh{of:Int}(h:setOf p.k.text.data.toList=some of):¬kL p:=fun b=>by
 rw[b.2]at h;simp[setOf]at h
theorem Qr{u:List UInt8}{of:Int}(h:setOf u=some of):of=3\/of=4:=by
 unfold setOf at h;split at h
 .exact Or.inl (Option.some.inj h).symm
 .split at h
  .exact Or.inr (Option.some.inj h).symm
  .cases h
theorem L8(h:kY s ex d)(n:Nat)(ok:p.Ok s)(hd:Deep (d+1) p):eP s p (kR s ex n p).2/\fM (kR s ex n p).1.1:=by
 unfold kR;split
 .rename_i of hof;have g1:=gq ok (Wh hof);obtain⟨g2,e2⟩:=XM h n ⟨p.k.at',1,p.k.text,of,[]⟩ _ ⟨by simp,Qr hof,by simp⟩ g1.ok (hd.dB g1);exact⟨g1.trans g2,e2⟩
 .exact⟨zN ok,⟨by simp,Or.inr rfl,by simp⟩⟩
theorem SE(ok:p.Ok s)(hb:¬kL p){x:Sx}(hx:fM x)(kind:Int):eP s p (Gq s x kind p).2/\cZ (Gq s x kind p).1:=⟨gq ok hb,ND kind _ hx⟩
theorem Ll(h:kY s ex d)(ok:p.Ok s)(hd:Deep (d+1) p)(hb:¬kL p){x:Sx}(hx:fM x)(kind:Int):eP s p (Bg s ex x kind p).2/\cZ (Bg s ex x kind p).1:=by
 have g1:=gq ok hb;obtain⟨g2,e2⟩:=JF h g1.ok (hd.dB g1);exact⟨g1.trans g2,PD kind _ hx e2⟩
theorem agl(h:kY s ex d)(ok:p.Ok s)(hd:Deep (d+1) p){x:Sx}(hx:fM x):eP s p (Fj s ex x p).2/\cZ (Fj s ex x p).1:=by
 unfold Fj;split
 .rename_i h1;exact SE ok (kJ (by simp) h1) hx _
 split
 .rename_i h1;exact SE ok (kJ (by simp) h1) hx _
 split
 .rename_i h1;rcases Bool.or_eq_true_iff.1 h1 with h1|h1
  .exact Ll h ok hd (kJ (by simp) h1) hx _
  .exact Ll h ok hd (kJ (by simp) h1) hx _
 split
 .rename_i h1;exact Ll h ok hd (kJ (by simp) h1) hx _
 split
 .rename_i h1;exact Ll h ok hd (kJ (by simp) h1) hx _
 .exact⟨zN ok,EZ⟩
theorem agr(h:kY s ex d)(n:Nat)(ok:p.Ok s)(hd:Deep (d+1) p):eP s p (yS s ex n p).2/\cZ (yS s ex n p).1:=by
 obtain⟨g1,e1⟩:=L8 h n ok hd;unfold yS;split
 .obtain⟨g2,e2⟩:=agl h g1.ok (hd.dB g1) e1;exact⟨g1.trans g2,e2⟩
 .exact⟨g1.trans (zN g1.ok),EZ⟩
theorem SL(h:kY s ex d)(n:Nat)(ok:p.Ok s)(hd:Deep (d+1) p):eP s p (oL s ex n p).2/\cZ (oL s ex n p).1:=by
 unfold oL;split
 .rename_i h1;exact⟨gq ok (Du (by rw[h1];decide)),PU _ _⟩
 split
 .rename_i h1;exact⟨gq ok (Du (by rw[h1];decide)),Qj _ _⟩
 split
 .rename_i h1;exact⟨gq ok (Du (by rw[h1];decide)),QT _ _⟩
 split
 .rename_i h1;refine⟨gq ok ?_,QL _ _ _⟩;rcases Bool.or_eq_true_iff.1 h1 with h1|h1
  .exact kJ (by simp) h1
  .exact kJ (by simp) h1
 split
 .obtain⟨g1,e1⟩:=KL h ok hd;exact⟨g1,Q5 e1 _⟩
 split
 .rename_i h1;have g0:=gq ok (kJ (by simp) h1);obtain⟨g1,e1⟩:=KL h g0.ok (hd.dB g0);exact⟨g0.trans g1,O5 _ e1⟩
 split
 .exact agr h n ok hd
 .exact⟨zN ok,EZ⟩
theorem NH(h:kY s ex d)(at':Int):∀(n:Nat)(e:Ex)(p:Ps),cZ e->p.Ok s->Deep (d+1) p->eP s p (qw s ex at' n e p).2/\cZ (qw s ex at' n e p).1
 |0,e,p,he,ok,_=>⟨eP.refl ok,he⟩
 |n+1,e,p,he,ok,hd=>by
  unfold qw;split
  .rename_i h1;have g1:=gq ok (kJ (by simp) h1);have g2:=g1.trans (zO g1.ok);simp only;split
   .obtain⟨g3,e3⟩:=Wn h g2.ok (hd.dB g2) at' he;obtain⟨g4,e4⟩:=NH h at' n _ _ e3 g3.ok (hd.dB (g2.trans g3));exact⟨(g2.trans g3).trans g4,e4⟩
   .obtain⟨g4,e4⟩:=NH h at' n _ _ (Iz at' _ _ he _) g2.ok (hd.dB g2);exact⟨g2.trans g4,e4⟩
  .exact⟨eP.refl ok,he⟩
theorem SS(h:kY s ex d)(n:Nat)(ok:p.Ok s)(hd:Deep (d+1) p):eP s p (vO s ex n p).2/\cZ (vO s ex n p).1:=by
 obtain⟨g1,e1⟩:=SL h n ok hd;obtain⟨g2,e2⟩:=NH h p.k.at' n _ _ e1 g1.ok (hd.dB g1);exact⟨g1.trans g2,e2⟩
theorem Ig(h:kY s ex d)(n:Nat):∀(m:Nat)(p:Ps),p.Ok s->Deep (d+1) p->eP s p (tJ s ex n m p).2/\cZ (tJ s ex n m p).1
 |0,p,ok,hd=>SS h n ok hd
 |m+1,p,ok,hd=>by
  unfold tJ;split
  .rename_i h1;have g1:=gq ok (kJ (by simp) h1);obtain⟨g2,e2⟩:=Ig h n m _ g1.ok (hd.dB g1);exact⟨g1.trans g2,Iq _ _ _ e2⟩
  split
  .rename_i h1;have g1:=gq ok (kJ (by simp) h1);obtain⟨g2,e2⟩:=Ig h n m _ g1.ok (hd.dB g1);exact⟨g1.trans g2,Iq _ _ _ e2⟩
  .exact SS h n ok hd
theorem V9{of:Int}(h5:of<=5)(h:lI p.k.text.data.toList=of):¬kL p:=fun b=>by
 rw[b.2]at h;simp[lI]at h;omega
theorem Wv{lower:Ps->Ex×Ps}(h:kY s lower d)(of:Int)(h5:of<=5)(at':Int):∀(n:Nat)(e:Ex)(p:Ps),cZ e->p.Ok s->Deep d p->eP s p (pV s lower of at' n e p).2/\cZ (pV s lower of at' n e p).1
 |0,e,p,he,ok,_=>⟨eP.refl ok,he⟩
 |n+1,e,p,he,ok,hd=>by
  unfold pV;split
  .rename_i h1;have g1:=gq ok (V9 h5 h1);obtain⟨g2,e2⟩:=h _ g1.ok (hd.dB g1);have g12:=g1.trans g2;simp only;split
   .exact⟨g12,IZ _ _ _ he e2⟩
   .obtain⟨g3,e3⟩:=Wv h of h5 at' n _ _ (IZ at' _ _ he e2) g2.ok (hd.dB g12);exact⟨g12.trans g3,e3⟩
  .exact⟨eP.refl ok,he⟩
theorem Lu(h:kY s ex d)(n:Nat):∀(l:Nat),kY s (Bl s ex n l) (d+1)
 |0=>fun p ok hd=>Ig h n n p ok hd
 |l+1=>fun p ok hd=>by
  obtain⟨g1,e1⟩:=Lu h n l p ok hd;obtain⟨g2,e2⟩:=Wv (Lu h n l) (5-l) (by omega) p.k.at' n _ _ e1 g1.ok (hd.dB g1);exact⟨g1.trans g2,e2⟩
theorem CQ(s:ByteArray):∀(d:Nat),kY s (pJ s d) d
 |0=>fun _ ok _=>⟨zN ok,EZ⟩
 |d+1=>fun p ok hd=>Lu (CQ s d) (s.size+1) 6 p ok hd
end
end
end Go.Proofs.YthllhabjfchgiaaGreatDoor
