import Derived.Test.YthllhabjfchgiaaGreatDoorHz40
set_option maxRecDepth 100000
set_option maxHeartbeats 8000000
namespace Go.Proofs.YthllhabjfchgiaaGreatDoor
open _root_.Go.Proofs.Tryz
section
open Go.RowKit Hx
attribute [local go_sem ↓] Go.wp_at_zero Go.wp_at_succ
attribute [local go_sem] bT
section
variable {s:ByteArray}{st:Ps->Option bI×Ps}{d:Nat}{p:Ps}
def ah4(st:Ps->Option bI×Ps)(gg:Nat)(l:List bI)(q:Ps):Option bI->List bI×Ps
 |some e=>oH st gg (l++[e]) q
 |none=>(l,q)
structure wV(s:ByteArray)(st:Ps->Option bI×Ps)(d:Nat)(R:List bI×Ps)(P:Nat)(w wr:World)(vl vc:Value)(gg:Nat)(g:Nat)(l:List bI)(us:List Value)(cur:Option bI)(q:Ps)(m:Nat):Prop where
 nI:nJ g l wr w.heap.size m us
 own:wr.ownsRow w.heap.size 192 1 vl l.length us
 aW:(vl.ownBlock=some g/\g<m)\/(l=[]/\vl=Nl)
 Bh:w.heap.size<=m
 Aa:m<=wr.heap.size
 here:∀e,cur=some e->e.here wr m wr.heap.size vc/\fQ e/\(s.size:Int)+1-q.k.at'<=gg
 nil:cur=none->vc=.nilIface
 pr:aC wr P s q
 grown:w.grownBy wr (some P)
 ok:q.Ok s
 deep:Deep d q
 vS:∀e∈l,fQ e
 len:l.length+gg<=100000
 eq:ah4 st gg l q cur=R
theorem afE{w:World}{B n:Nat}{v:Value}{us:List Value}(h:w.ownsRow B 192 1 v n us):∃a c,v=.slice a n c:=by
 rcases h with⟨_,⟨h2,h3⟩|⟨g,cap,cur,h2,_⟩⟩
 .subst h3;exact⟨_,_,h2⟩
 .exact⟨_,_,h2⟩
variable {R:List bI×Ps}{P:Nat}{w wr w2 w3:World}{la:Option Addr}{lc ln gk g m gg cap:Nat}{l:List bI}{us:List Value}{vc:Value}{e:bI}{q:Ps}{o:Obj}
theorem wV.Ul(h:wV s st d R P w wr (.slice la ln lc) vc gk g l us (some e) q m)(hgr:(wr.alloc o).grownBy w2 (Value.slice la ln lc).ownBlock)(hP:P<w.heap.size):
 (∀b,b<wr.heap.size->(b≠g\/m<=b)->w2.heap[b]? =wr.heap[b]?)/\aC w2 P s q/\w.grownBy w2 (some P)/\wr.heap.size<w2.heap.size:=by
 have yJ:wr.grownBy w2 (Value.slice la ln lc).ownBlock:=(World.grownBy_alloc wr o _).trans hgr;have hs1:=hgr.size;rw[kK]at hs1;have hg0:=h.grown.size;rcases h.aW with⟨h1,h2⟩|⟨h1,h2⟩
 .rw[h1]at yJ;have hgB:w.heap.size<=g:=by
   rcases h.own with⟨_,⟨k2,k3⟩|⟨g',cap',cur',k2,k3,_⟩⟩
   .rw[k2]at h1;cases h1
   .rw[k2]at h1;simp only[Value.ownBlock,Option.some.injEq]at h1;omega
  exact⟨fun b hb hb2=>yJ.block b hb (by simp;omega),bK.lK h.pr yJ (by omega),h.grown.andThen yJ (fun j ej=>by cases ej;exact Or.inl hgB),by omega⟩
 .rw[h2]at yJ;have yJ:wr.grownBy w2 none:=yJ;exact⟨fun b hb _=>yJ.block b hb (by simp),h.pr.grow yJ,h.grown.trans (yJ.but _),by omega⟩
theorem wV.next(h:wV s st d R P w wr (.slice la ln lc) vc gk g l us (some e) q m)(hst:Gf s st d)(hP:P<w.heap.size)(hln:l.length=ln)(hgr:(wr.alloc o).grownBy w2 (Value.slice la ln lc).ownBlock)
 (hown:w2.ownsRow w.heap.size 192 1 (.slice (some (Ad gg 0)) (ln+1) cap) (ln+1) (us++[vc]))(hat:(Value.slice la ln lc).ownBlock=some gg\/gg=wr.heap.size+1)(hlt2:gg<w2.heap.size)
 {v3:Value}(hv:match (st q).1 with|some st=>st.here w3 w2.heap.size w3.heap.size v3|none=>v3=.nilIface)(p3:aC w3 P s (st q).2)(g3:w2.grownBy w3 (some P)):
 ∃g',gk=g'+1/\wV s st d R P w w3 (.slice (some (Ad gg 0)) (ln+1) cap) v3 g' gg (l++[e]) (us++[vc]) (st q).1 (st q).2 w2.heap.size:=by
 obtain⟨eh,eo,ef⟩:=h.here e rfl;obtain⟨n1,n2,n3,n4⟩:=h.Ul hgr hP;have hbd:=h.ok.tok.bd;have ajT:=h.ok.tok.l9;obtain⟨g',hg'⟩:∃g',gk=g'+1:=⟨gk-1,by omega⟩;have hs0:=h.grown.size;have hs3:=g3.size;have acC:=h.Bh;have acA:=h.Aa;have hgm:gg=g/\g<m\/wr.heap.size<=gg:=by
  rcases hat with h1|h1
  .rcases h.aW with⟨h2,h3⟩|⟨_,h2⟩
   .rw[h2]at h1;exact Or.inl ⟨(Option.some.inj h1).symm,h3⟩
   .rw[h2]at h1;cases h1
  .exact Or.inr (by omega)
 have hl:∀b∈l,Lawful b.here:=fun b hb=>(h.vS b hb).law;have k1:nJ g l w2 w.heap.size m us:=Ye hl h.nI (fun b b1 b2 b3=>n1 b (by omega) (Or.inl b3));have k2:nJ gg l w2 w.heap.size m us:=by
  rcases hgm with⟨h1,_⟩|h1
  .rw[h1];exact k1
  .exact Yf k1 (by omega)
 have k3:e.here w2 m wr.heap.size vc:=eo.law.loc _ _ _ _ _ eh (fun b b1 b2=>n1 b b2 (Or.inr b1));have k4:nJ gg (l++[e]) w2 w.heap.size w2.heap.size (us++[vc]):=Yg k2 k3 acC acA (by omega) (by omega);have UG:∀x∈l++[e],fQ x:=fun x hx=>by
  rcases List.mem_append.1 hx with hx|hx
  .exact h.vS x hx
  .rw[List.mem_singleton.1 hx];exact eo
 have hBg:w.heap.size<=gg:=by
  rcases hown with⟨_,⟨z2,_⟩|⟨g2,cap2,ajL,z2,z3,_⟩⟩
  .cases z2
  .cases z2;exact z3
 refine⟨g',hg',⟨MG (fun b hb=>(UG b hb).law) k4 (fun b b1 b2=>g3.block b b2 (by simp;omega)),?_,Or.inl ⟨rfl,hlt2⟩,by omega,hs3,?_,?_,p3,n3.trans g3,?_,?_,UG,?_,?_⟩⟩
 .have:=hown.kept g3 (Or.inr (by simp[Value.ownBlock];omega));simpa [hln]using this
 .intro x hx;rcases hst q h.ok h.deep with⟨e',q',h4,h5⟩|h4
  .rw[h4]at hx hv⊢;simp only[Option.some.injEq]at hx;subst hx;have hm:=h5.more;simp only at hm;exact⟨hv,h5.vS,by show(s.size:Int)+1-q'.k.at'<=(g':Int);omega⟩
  .rw[h4]at hx;cases hx
 .intro hx;rw[hx]at hv;exact hv
 .rcases hst q h.ok h.deep with⟨e',q',h4,h5⟩|h4
  .rw[h4];exact h5.goes.ok
  .rw[h4];exact h.ok
 .rcases hst q h.ok h.deep with⟨e',q',h4,h5⟩|h4
  .rw[h4];exact h.deep.dB h5.goes
  .rw[h4];exact h.deep
 .have:=h.len;simp only[List.length_append,List.length_cons,List.length_nil];omega
 .have hR:oH st gk (l++[e]) q=R:=h.eq;rw[hg']at hR;unfold oH at hR;rcases hst q h.ok h.deep with⟨e',q',h4,h5⟩|h4
  .rw[h4]at hR⊢;exact hR
  .rw[h4]at hR⊢;exact hR
theorem X5(hst:Gf s st d)(hr:∀p,p.Ok s->Deep d p->yt s p (st p))(n:Nat)(hn:s.size<=n)(hn2:n<=50000)(ok:p.Ok s)(hd:Deep d p):Cc 141 s p (oH st (n+1) [] p):=by
 intro P w hp;have hlt:=hp.lt;obtain⟨i0,hi,hz0,hz1,hz2⟩:=info_parts adi;have H1:Hid (Calls prog 191 #[Pt P 0] w fun e w'=>(∃v,e=.returned v/\(match (st p).1 with|some st=>st.here w' w.heap.size w'.heap.size v|none=>v=.nilIface))/\aC w' P s (st p).2/\w.grownBy w' (some P)):=hr p ok hd P w hp;have H2:Hid (∀q,q.Ok s->Deep d q->∀x,aC x P s q->Calls prog 191 #[Pt P 0] x fun e w'=>(∃v,e=.returned v/\(match (st q).1 with|some st=>st.here w' x.heap.size w'.heap.size v|none=>v=.nilIface))/\aC w' P s (st q).2/\x.grownBy w' (some P)):=fun q h1 h2 x hx=>hr q h1 h2 P x hx;have HI:Hid (∀w' v,(match (st p).1 with|some st=>st.here w' w.heap.size w'.heap.size v|none=>v=.nilIface)->aC w' P s (st p).2->w.grownBy w' (some P)->wV s st d (oH st (n+1) [] p) P w w' (Nl) v n 0 [] [] (st p).1 (st p).2 w.heap.size):=fun w' v hv h2 h3=>by
  have hat:=ok.tok.l9;refine⟨rfl,World.ownsRow_nil _ _ _ _,Or.inr ⟨rfl,rfl⟩,Nat.le_refl _,h3.size,?_,?_,h2,h3,?_,?_,by simp,by simp;omega,?_⟩
  .intro e he;rcases hst p ok hd with⟨e',q',h4,h5⟩|h4
   .rw[h4]at he hv⊢;simp only[Option.some.injEq]at he;subst he;have hm:=h5.more;simp only at hm;exact⟨hv,h5.vS,by show(s.size:Int)+1-q'.k.at'<=(n:Int);omega⟩
   .rw[h4]at he;cases he
  .intro he;rw[he]at hv;exact hv
  .rcases hst p ok hd with⟨e',q',h4,h5⟩|h4
   .rw[h4];exact h5.goes.ok
   .rw[h4];exact ok
  .rcases hst p ok hd with⟨e',q',h4,h5⟩|h4
   .rw[h4];exact hd.dB h5.goes
   .rw[h4];exact hd
  .conv=>rhs;unfold oH
   rcases hst p ok hd with⟨e',q',h4,h5⟩|h4
   .rw[h4];rfl
   .rw[h4];rfl
 have HST:Hid (Gf s st d):=hst;show Calls prog 141 #[Pt P 0] w fun e w'=>∃v,e=.returned v/\dX (oH st (n+1) [] p).1 w' w.heap.size w'.heap.size v/\aC w' P s (oH st (n+1) [] p).2/\w.grownBy w' (some P);generalize oH st (n+1) [] p=R at *;clear hp hr hst ok hd;go_enter func141,ntmps141;go_wp2_with fail;refine H1.out.mono ?_;rintro e w1 ⟨⟨v,rfl,hv⟩,h2,h3⟩;have HO:Hid (wV s st d R P w w1 (Nl) v n 0 [] [] (st p).1 (st p).2 w.heap.size):=HI.out w1 v hv h2 h3;clear hv h2 h3 H1 HI;go_wp2_with fail;go_loopg [3,4] n (fun gg vl vc wr=>Hid (∃g l us cur q m,wV s st d R P w wr vl vc gg g l us cur q m))
 case atStart=>exact⟨_,_,_,_,_,_,HO.out⟩
 case round=>
  obtain⟨g,l,us,cur,q,m,hI⟩:=hrel.out;clear hrel HO;obtain⟨la,lc,hvl⟩:=afE hI.own;subst hvl;cases cur with
  |none=>
   have OI:=hI.nil rfl;subst OI;have HF:Hid (dX R.1 wr w.heap.size wr.heap.size (.slice la l.length lc)/\aC wr P s R.2/\w.grownBy wr (some P)):=by
    have hR:(l,q)=R:=hI.eq;rw[<-hR];refine⟨adU hI.own ?_ (Qz hI.nI hI.Aa) (Nat.le_refl _) (Nat.le_refl _),hI.pr,hI.grown⟩;rcases hI.aW with⟨h1,_⟩|⟨h1,_⟩
    .exact Or.inl h1
    .exact Or.inr h1
   clear hI H2 HST;go_wp2_with fail;go_ret;exact⟨_,rfl,HF.out⟩
  |some e=>
   obtain⟨eh,eo,ef⟩:=hI.here e rfl;obtain⟨T,b,OI,hT,b1,b2,b3⟩:=eo.head _ _ _ _ eh;subst OI;have HN:Hid (wV s st d R P w wr (.slice la l.length lc) (.iface T (Pt b 0)) gk g l us (some e) q m):=hI;have hlen:l.length<=100000:=by have:=hI.len;omega
   have D9:Hid (∀o,(wr.alloc o).ownsRow w.heap.size 192 1 (.slice la l.length lc) l.length us):=fun o=>hI.own.alloc o;have hsz:=hI.grown.size;obtain⟨ln,hln⟩:∃ln,l.length=ln:=⟨_,rfl⟩;rw[hln]at D9 hlen⊢;have MS:Hid (l.length=ln):=hln;clear hI eh eo ef b1 b2 b3 hln;go_wp2_with (at_builtin;refine wpList_append_lies _ rfl _ _ 105 rfl w.heap.size 192 i0 .nilIface 1 16 Tryz.underlying105 hi hz0 hz1 hz2 rfl (by decide) (.slice la ln lc) ln us rfl (D9.out _) (Ad wr.heap.size 0) 1 1 [.iface T (Pt b 0)] rfl rfl (cell_one_new _ _ _) (by simp[Value.oneCell']) (by decide) (by unfold maxLen;omega) (by omega) (by simp;omega) (wr.heap.size+1) (by simp) ?_;intro gg cap w2 hown hgr hat hlt2);have HG:Hid ((wr.alloc (Obj.cells #[.iface T (Pt b 0)] 192)).grownBy w2 (Value.slice la ln lc).ownBlock/\w2.ownsRow w.heap.size 192 1 (.slice (some (Ad gg 0)) (ln+1) cap) (ln+1) (us++[.iface T (Pt b 0)])/\((Value.slice la ln lc).ownBlock=some gg\/gg=wr.heap.size+1)/\gg<w2.heap.size):=⟨hgr,hown,hat,hlt2⟩;have Aw:Hid (wV s st d R P w wr (.slice la ln lc) (.iface T (Pt b 0)) gk g l us (some e) q m):=by
    have:=HN.out;rw[MS.out]at this;exact this
   clear hgr hown hat hlt2 HN D9;refine(H2.out q Aw.out.ok Aw.out.deep _ (Aw.out.Ul HG.out.1 hlt).2.1).mono ?_;rintro e1 w3 ⟨⟨v3,rfl,hv⟩,p3,g3⟩;obtain⟨g',hg',hnew⟩:=Aw.out.next HST.out hlt MS.out HG.out.1 HG.out.2.1 HG.out.2.2.1 HG.out.2.2.2 hv p3 g3;have FX:Hid (wV s st d R P w w3 (.slice (some (Ad gg 0)) (ln+1) cap) v3 g' gg (l++[e]) (us++[.iface T (Pt b 0)]) (st q).1 (st q).2 w2.heap.size):=hnew;clear hv p3 g3 hnew H2 Aw HG;go_wp2_with fail;go_roundg g'
   case measure=>omega
   case rel=>exact⟨_,_,_,_,_,_,FX.out⟩
end
section
variable {s:ByteArray}{ex':Ps->Ex×Ps}{aW:Ps->List bI×Ps}{d:Nat}{p:Ps}
theorem aeh(hs:s.size<=4000)(n:Nat)(h:Reader s ex' d)(hset:∀p,p.Ok s->Deep (d+1) p->sV s p (kR s ex' n p))(hb:zn s aW (d+1))(hblk:∀p,p.Ok s->Deep (d+1) p->Cc 241 s p (aW p))(hlen:∀p,(aW p).1.length<=1000000)(ok:p.Ok s)(hd:Deep (d+1) p)(ht:p.is [101,97,99,104]=true):ou 226 s p (Ib s aW ex' n p):=by
 intro P w hp;have hlt:=hp.lt;have g1:=gq ok (kJ (by simp) ht);have gn:=zO g1.ok;have ge:=rU gn.ok (t:=[105,110]) (by simp);have de:=hd.dB ((g1.trans gn).trans ge);obtain⟨gs,xs⟩:=L8 h.dB n ge.ok de;have HN:Hid (Calls prog 236 #[Pt P 0] w (dP P s w (.agg #[Im p.k.kind,.string p.k.text,Im p.k.at']) (p.next s))):=qQ hp ok hs;have HM:Hid (∀x,aC x P s (p.next s)->Calls prog 232 #[Pt P 0] x (dP P s x (BI ((p.next s).name s).1) ((p.next s).name s).2)):=fun x hx=>EP hx g1.ok hs;have HE:Hid (∀x,aC x P s ((p.next s).name s).2->Calls prog 239 #[Pt P 0,.string ⟨#[105,110]⟩] x (dP P s x (.tuple #[]) (((p.next s).name s).2.expect s [105,110]))):=fun x hx=>zK hx gn.ok hs [105,110];have HS:Hid (∀y,aC y P s (((p.next s).name s).2.expect s [105,110])->Calls prog 243 #[Pt P 0] y fun e w'=>∃u,e=.returned (.tuple #[u,.bool (kR s ex' n (((p.next s).name s).2.expect s [105,110])).1.2])/\dF (kR s ex' n (((p.next s).name s).2.expect s [105,110])).1.1 w' y.heap.size w'.heap.size u/\aC w' P s (kR s ex' n (((p.next s).name s).2.expect s [105,110])).2/\y.grownBy w' (some P)):=fun y hy=>hset _ ge.ok de P y hy;have HB:Hid (∀q,q.Ok s->Deep (d+1) q->(∀y,aC y P s q->Calls prog 241 #[Pt P 0] y fun e w'=>∃v,e=.returned v/\dX (aW q).1 w' y.heap.size w'.heap.size v/\aC w' P s (aW q).2/\y.grownBy w' (some P))/\(∀e∈(aW q).1,fQ e)/\(aW q).1.length<=1000000):=fun q h1 h2=>⟨fun y hy=>hblk q h1 h2 P y hy,(hb q h1 h2).2,hlen q⟩;have hfa:=Gy p.k.kind p.k.at' p.k.text
 have HX:Hid (fM (kR s ex' n (((p.next s).name s).2.expect s [105,110])).1.1/\(kR s ex' n (((p.next s).name s).2.expect s [105,110])).2.Ok s/\Deep (d+1) (kR s ex' n (((p.next s).name s).2.expect s [105,110])).2):=⟨xs,gs.ok,de.dB gs⟩;show Calls prog 226 #[Pt P 0] w fun e w'=>∃v,e=.returned v/\(vW p.k.at' ((p.next s).name s).1 (kR s ex' n (((p.next s).name s).2.expect s [105,110])).1.1 (aW (if (kR s ex' n (((p.next s).name s).2.expect s [105,110])).1.2 then (kR s ex' n (((p.next s).name s).2.expect s [105,110])).2.fail else (kR s ex' n (((p.next s).name s).2.expect s [105,110])).2)).1).here w' w.heap.size w'.heap.size v/\aC w' P s (aW (if (kR s ex' n (((p.next s).name s).2.expect s [105,110])).1.2 then (kR s ex' n (((p.next s).name s).2.expect s [105,110])).2.fail else (kR s ex' n (((p.next s).name s).2.expect s [105,110])).2)).2/\w.grownBy w' (some P);generalize kR s ex' n (((p.next s).name s).2.expect s [105,110])=sm at *;generalize ((p.next s).name s).2.expect s [105,110]=q3 at *;generalize (p.next s).name s=dq at *;generalize p.next s=q1 at *;generalize p.k.kind=kk at *;generalize p.k.text=kt at *;generalize p.k.at'=ka at *;obtain⟨⟨dt,da⟩,q2⟩:=dq;obtain⟨⟨x,asked⟩,q4⟩:=sm;have HM:Hid (∀x,aC x P s q1->Calls prog 232 #[Pt P 0] x (dP P s x (.agg #[.string dt,Im da]) q2)):=HM.out;simp only at HE HS HX⊢;clear hp g1 gn ge de gs xs ok hd ht h hb hblk hlen hset;have hq5:Hid ((if asked then q4.fail else q4).Ok s/\Deep (d+1) (if asked then q4.fail else q4)):=by
  cases asked with
  |true=>exact⟨HX.out.2.1.fail,HX.out.2.2.dB (zN HX.out.2.1)⟩
  |false=>exact HX.out.2
 obtain⟨hbk,EH,hbl⟩:=HB.out _ hq5.out.1 hq5.out.2;have FK:Hid (∀y,aC y P s (if asked then q4.fail else q4)->Calls prog 241 #[Pt P 0] y fun e w'=>∃v,e=.returned v/\dX (aW (if asked then q4.fail else q4)).1 w' y.heap.size w'.heap.size v/\aC w' P s (aW (if asked then q4.fail else q4)).2/\y.grownBy w' (some P)):=hbk;have HY:Hid ((∀e∈(aW (if asked then q4.fail else q4)).1,fQ e)/\(aW (if asked then q4.fail else q4)).1.length<=1000000):=⟨EH,hbl⟩;have Rk:Hid (∀y,aC y P s q4->Calls prog 142 #[Pt P 0] y (dP P s y (.tuple #[]) q4.fail)):=fun y hy=>zL hy;have hqe:Hid ((asked=true->(if asked then q4.fail else q4)=q4.fail)/\(asked=false->(if asked then q4.fail else q4)=q4)):=⟨fun h=>by rw[h];rfl,fun h=>by rw[h];rfl⟩;generalize aW (if asked then q4.fail else q4)=bk at *;generalize (if asked then q4.fail else q4)=q5 at *;generalize q4.fail=q4f at *;clear hbk EH hbl HB hq5;go_enter func226,ntmps226;go_wp2_with fail;refine HN.out.mono ?_;rintro e w1 ⟨rfl,p1,k1⟩;have bP:Hid (aC w1 P s q1/\w.grownBy w1 (some P)):=⟨p1,k1⟩;clear p1 k1 HN;go_wp2_with fail;refine(HM.out _ bP.out.1).mono ?_;rintro e w2 ⟨rfl,p2,k2⟩;have HP2:Hid (aC (w2.alloc (.cells #[.string dt,Im da] 316)) P s q2/\w.grownBy w2 (some P)):=⟨p2.grow (World.grownBy_alloc _ _ none),bP.out.2.trans k2⟩;clear p2 k2 HM bP;go_wp2_with fail;refine(HE.out _ HP2.out.1).mono ?_;rintro e w3 ⟨rfl,p3,k3⟩
 have hg3:w3.heap[w2.heap.size]? =some (.cells #[.string dt,Im da] 316):=(k3.block _ (by rw[kK];omega) (by have:=HP2.out.2.size;simp;omega)).trans (heap_alloc_new _ _);have dG:Hid (aC w3 P s q3/\w.grownBy w3 (some P)/\w3.heap[w2.heap.size]? =some (.cells #[.string dt,Im da] 316)/\w.heap.size<=w2.heap.size):=⟨p3,HP2.out.2.trans (((World.grownBy_alloc w2 _ none).but _).trans k3),hg3,HP2.out.2.size⟩;clear p3 k3 hg3 HE HP2;go_wp2_with fail;refine(HS.out _ dG.out.1).mono ?_;rintro e w4 ⟨u,rfl,e4,p4,k4⟩;obtain⟨S,fv,hu,s1,s2,s3⟩:=oG e4;subst hu;have fK:Hid (dF x w4 w3.heap.size w4.heap.size (Pt S 0)/\aC w4 P s q4/\w3.grownBy w4 (some P)):=⟨e4,p4,k4⟩;clear e4 p4 k4 s1 s2 s3 HS;have HT:Hid (∀w5,aC w5 P s q5->w4.grownBy w5 (some P)->∀w6 v6,dX bk.1 w6 w5.heap.size w6.heap.size v6->aC w6 P s bk.2->w5.grownBy w6 (some P)->w.grownBy w6 (some P)/\w6.heap[w2.heap.size]? =some (.cells #[.string dt,Im da] 316)/\dF x w6 w.heap.size w5.heap.size (Pt S 0)/\w.heap.size<=w5.heap.size/\w5.heap.size<=w6.heap.size):=fun w5 h5 g5 w6 v6 l6 h6 g6=>by
  have z3:=dG.out.2.1.size;have z4:=fK.out.2.2.size;have z5:=g5.size;have zz:=dG.out.2.2.2;have gA:=fK.out.2.2.trans (g5.trans g6);refine⟨dG.out.2.1.trans gA,(gA.block _ (dS dG.out.2.2.1) (by simp;omega)).trans dG.out.2.2.1,?_,by omega,g6.size⟩;exact HX.out.1.law.wide _ _ _ _ _ _ (HX.out.1.aN fK.out.1 (by omega) (Nat.le_refl _) (g5.trans g6)) z3 z5
 cases asked with
 |true=>
  have hq:=hqe.out.1 rfl;subst hq;go_wp2_with fail;refine(Rk.out _ fK.out.2.1).mono ?_;rintro e w5 ⟨rfl,p5,k5⟩;have pG:Hid (aC w5 P s q5/\w4.grownBy w5 (some P)):=⟨p5,k5⟩;clear p5 k5 Rk;go_wp2_with fail;refine(FK.out _ pG.out.1).mono ?_;rintro e w6 ⟨v6,rfl,e6,p6,k6⟩;obtain⟨va,vn,vc,hv6⟩:=uK e6;subst hv6;obtain⟨t1,t2,t3,t4,t5⟩:=HT.out w5 pG.out.1 pG.out.2 w6 _ e6 p6 k6;have BQ:Hid (w.grownBy w6 (some P)/\w6.heap[w2.heap.size]? =some (.cells #[.string dt,Im da] 316)/\dF x w6 w.heap.size w5.heap.size (Pt S 0)/\dX bk.1 w6 w5.heap.size w6.heap.size (.slice va vn vc)/\aC w6 P s bk.2/\w.heap.size<=w5.heap.size/\w5.heap.size<=w6.heap.size):=⟨t1,t2,t3,e6,p6,t4,t5⟩;obtain⟨S',yF,hS',_,_,hS6⟩:=oG t3;cases hS';have c1:w6.cell? (Ad S 1)=some (Im x.aj):=aA hS6;have c3:w6.cell? (Ad S 3)=some (Im x.of):=aA hS6;have uq:Hid (Calls prog 244 #[Pt S 0] w6 fun e w'=>e=.returned (Im x.aj)/\w'=w6):=nZ S 0 _ c1;have AO:Hid (Calls prog 90 #[.slice va vn vc] w6 fun e w'=>e=.returned (Im (dK bk.1))/\w6.grownBy w' none):=DR HY.out.1 HY.out.2 (Dv HY.out.1 e6);have hsb:=qG HY.out.1;have sQ:Hid (∀y,w6.grownBy y none->Calls prog 245 #[Pt S 0,Im (dK bk.1)] y fun e w'=>e=.returned (Im (x.round (dK bk.1)))/\y.grownBy w' none):=fun y hy=>(LX (x:=x) (hy.cell c3 (by simp)) (dK bk.1) hsb).mono fun e w' ⟨h1,h2⟩=>⟨h1,by rw[h2];exact(World.grownBy_alloc y _ none).trans (World.grownBy_alloc _ _ none)⟩;clear t1 t2 t3 t4 t5 e6 p6 k6 hS6 c1 c3;go_wp2_with fail;refine uq.out.mono ?_;rintro e w7 ⟨rfl,hw7⟩;rw[hw7]
  clear hw7 uq;go_wp2_with fail;refine AO.out.mono ?_;rintro e w8 ⟨rfl,k8⟩;have wQ:Hid (w6.grownBy w8 none):=k8;clear k8 AO;go_wp2_with fail;refine(sQ.out _ wQ.out).mono ?_;rintro e w9 ⟨rfl,k9⟩;have uh:Hid (w6.grownBy w9 none):=wQ.out.trans k9;clear k9 sQ wQ;go_wp2_with fail;refine(uO ka _ [x.aj,x.round (dK bk.1)] (DU w9 _ _ _ HX.out.1.aj.1 HX.out.1.aj.2 (tY hsb).1 (tY hsb).2)).mono ?_;rintro e w10 ⟨rfl,k10⟩;have wP:Hid (w6.grownBy w10 none):=uh.out.trans ((World.grownBy_alloc w9 _ none).trans k10);clear k10 uh;have hgb:w10.heap[w2.heap.size]? =some (.cells #[.string dt,Im da] 316):=(wP.out.block _ (dS BQ.out.2.1) (by simp)).trans BQ.out.2.1;have l3:=dS hgb;have gb0:w10.cell? (Ad w2.heap.size 0)=some (.string dt):=aA hgb;have gb1:w10.cell? (Ad w2.heap.size 1)=some (Im da):=aA hgb;have LH:w2.heap.size<w10.heap.size+1:=by omega
  have HFin:Hid (∀o o2,o2=Obj.cells #[Im ka,Im (bD [x.aj,x.round (dK bk.1)]),.string dt,Im da,Pt S 0,.slice va vn vc] 351->(vW ka ⟨dt,da⟩ x bk.1).here ((w10.alloc o).alloc o2) w.heap.size ((w10.alloc o).alloc o2).heap.size (.iface 349 (Pt (w10.heap.size+1) 0))/\aC ((w10.alloc o).alloc o2) P s bk.2/\w.grownBy ((w10.alloc o).alloc o2) (some P)):=fun o o2 ho=>by
   obtain⟨f1,f2,f3,f4,f5,f6,f7⟩:=BQ.out;have gg:=wP.out.trans (World.grownBy_alloc w10 o none);have gf:=gg.trans (World.grownBy_alloc (w10.alloc o) o2 none);have sg:=gg.size;have ll:=oC HY.out.1;have hK:rX (dF x) (dX bk.1) (w10.alloc o) w.heap.size (w10.alloc o).heap.size [Pt S 0,.slice va vn vc]:=
    ⟨w5.heap.size,_,_,rfl,f6,by omega,HX.out.1.law.loc _ _ _ _ _ f3 (fun b _ hb=>gg.block b (by omega) (by simp)),ll.wide _ _ _ _ _ _ (ll.loc _ _ _ _ _ f4 (fun b _ hb=>gg.block b hb (by simp))) (Nat.le_refl _) sg⟩
   have hn:=EX (ds:={}) (T':=349) (T:=351) (at':=ka) (aj:=bD [x.aj,x.round (dK bk.1)]) (mk:=fun us=>.string dt::Im da::us) (tu HX.out.1.law ll) hK (by omega) ho;rw[kK w10 o]at hn;exact⟨hn,f5.grow gf,f1.trans (gf.but _)⟩
  clear hgb;go_wp2_with fail;go_ret;exact⟨_,rfl,HFin.out _ _ rfl⟩
 |false=>
  have hq:=hqe.out.2 rfl;subst hq;have pG:Hid (aC w4 P s q5/\w4.grownBy w4 (some P)):=⟨fK.out.2.1,World.grownBy.refl _ _⟩;go_wp2_with fail;refine(FK.out _ pG.out.1).mono ?_;rintro e w6 ⟨v6,rfl,e6,p6,k6⟩;obtain⟨va,vn,vc,hv6⟩:=uK e6;subst hv6;obtain⟨t1,t2,t3,t4,t5⟩:=HT.out w4 pG.out.1 pG.out.2 w6 _ e6 p6 k6;have BQ:Hid (w.grownBy w6 (some P)/\w6.heap[w2.heap.size]? =some (.cells #[.string dt,Im da] 316)/\dF x w6 w.heap.size w4.heap.size (Pt S 0)/\dX bk.1 w6 w4.heap.size w6.heap.size (.slice va vn vc)/\aC w6 P s bk.2/\w.heap.size<=w4.heap.size/\w4.heap.size<=w6.heap.size):=⟨t1,t2,t3,e6,p6,t4,t5⟩;obtain⟨S',yF,hS',_,_,hS6⟩:=oG t3;cases hS';have c1:w6.cell? (Ad S 1)=some (Im x.aj):=aA hS6;have c3:w6.cell? (Ad S 3)=some (Im x.of):=aA hS6;have uq:Hid (Calls prog 244 #[Pt S 0] w6 fun e w'=>e=.returned (Im x.aj)/\w'=w6):=nZ S 0 _ c1;have AO:Hid (Calls prog 90 #[.slice va vn vc] w6 fun e w'=>e=.returned (Im (dK bk.1))/\w6.grownBy w' none):=DR HY.out.1 HY.out.2 (Dv HY.out.1 e6);have hsb:=qG HY.out.1;have sQ:Hid (∀y,w6.grownBy y none->Calls prog 245 #[Pt S 0,Im (dK bk.1)] y fun e w'=>e=.returned (Im (x.round (dK bk.1)))/\y.grownBy w' none):=fun y hy=>(LX (x:=x) (hy.cell c3 (by simp)) (dK bk.1) hsb).mono fun e w' ⟨h1,h2⟩=>⟨h1,by rw[h2];exact(World.grownBy_alloc y _ none).trans (World.grownBy_alloc _ _ none)⟩;clear t1 t2 t3 t4 t5 e6 p6 k6 hS6 c1 c3;go_wp2_with fail;refine uq.out.mono ?_;rintro e w7 ⟨rfl,hw7⟩;rw[hw7];clear hw7 uq;go_wp2_with fail;refine AO.out.mono ?_;rintro e w8 ⟨rfl,k8⟩
  have wQ:Hid (w6.grownBy w8 none):=k8;clear k8 AO;go_wp2_with fail;refine(sQ.out _ wQ.out).mono ?_;rintro e w9 ⟨rfl,k9⟩;have uh:Hid (w6.grownBy w9 none):=wQ.out.trans k9;clear k9 sQ wQ;go_wp2_with fail;refine(uO ka _ [x.aj,x.round (dK bk.1)] (DU w9 _ _ _ HX.out.1.aj.1 HX.out.1.aj.2 (tY hsb).1 (tY hsb).2)).mono ?_;rintro e w10 ⟨rfl,k10⟩;have wP:Hid (w6.grownBy w10 none):=uh.out.trans ((World.grownBy_alloc w9 _ none).trans k10);clear k10 uh;have hgb:w10.heap[w2.heap.size]? =some (.cells #[.string dt,Im da] 316):=(wP.out.block _ (dS BQ.out.2.1) (by simp)).trans BQ.out.2.1;have l3:=dS hgb;have gb0:w10.cell? (Ad w2.heap.size 0)=some (.string dt):=aA hgb;have gb1:w10.cell? (Ad w2.heap.size 1)=some (Im da):=aA hgb;have LH:w2.heap.size<w10.heap.size+1:=by omega
  have HFin:Hid (∀o o2,o2=Obj.cells #[Im ka,Im (bD [x.aj,x.round (dK bk.1)]),.string dt,Im da,Pt S 0,.slice va vn vc] 351->(vW ka ⟨dt,da⟩ x bk.1).here ((w10.alloc o).alloc o2) w.heap.size ((w10.alloc o).alloc o2).heap.size (.iface 349 (Pt (w10.heap.size+1) 0))/\aC ((w10.alloc o).alloc o2) P s bk.2/\w.grownBy ((w10.alloc o).alloc o2) (some P)):=fun o o2 ho=>by
   obtain⟨f1,f2,f3,f4,f5,f6,f7⟩:=BQ.out;have gg:=wP.out.trans (World.grownBy_alloc w10 o none);have gf:=gg.trans (World.grownBy_alloc (w10.alloc o) o2 none);have sg:=gg.size;have ll:=oC HY.out.1;have hK:rX (dF x) (dX bk.1) (w10.alloc o) w.heap.size (w10.alloc o).heap.size [Pt S 0,.slice va vn vc]:=
    ⟨w4.heap.size,_,_,rfl,f6,by omega,HX.out.1.law.loc _ _ _ _ _ f3 (fun b _ hb=>gg.block b (by omega) (by simp)),ll.wide _ _ _ _ _ _ (ll.loc _ _ _ _ _ f4 (fun b _ hb=>gg.block b hb (by simp))) (Nat.le_refl _) sg⟩
   have hn:=EX (ds:={}) (T':=349) (T:=351) (at':=ka) (aj:=bD [x.aj,x.round (dK bk.1)]) (mk:=fun us=>.string dt::Im da::us) (tu HX.out.1.law ll) hK (by omega) ho;rw[kK w10 o]at hn;exact⟨hn,f5.grow gf,f1.trans (gf.but _)⟩
  clear hgb;go_wp2_with fail;go_ret;exact⟨_,rfl,HFin.out _ _ rfl⟩
end
section
variable {s:ByteArray}{ex:Ps->Ex×Ps}{d:Nat}{p:Ps}{r:Ex×Ps}
theorem aau(hq:eH 270 [] s p r)(hd:r.2.is [46]=false):eH 269 [] s p r:=by
 intro P w h;have HQ:Hid (Calls prog 270 #[Pt P 0] w fun e w'=>∃v,e=.returned v/\r.1.here r.1.at' w' w.heap.size w'.heap.size v/\aC w' P s r.2/\w.grownBy w' (some P)):=hq P w h;have c3:=bK.c3 h;have HD:Hid (r.2.is [46]=false):=hd;clear h hq hd;show Calls prog 269 #[Pt P 0] w _;go_enter func269,ntmps269;go_wp2_with fail;refine HQ.out.mono ?_;rintro e w2 ⟨v,rfl,h1,p1,q1⟩;have HI:Hid (Calls prog 242 #[Pt P 0,.string ⟨#[46]⟩] w2 fun e w'=>e=.returned (.bool false)/\w'=w2):=by
  have:=Dh p1 [46];rw[HD.out]at this;exact this
 have HH:Hid (r.1.here r.1.at' w2 w.heap.size w2.heap.size v/\aC w2 P s r.2/\w.grownBy w2 (some P)):=⟨h1,p1,q1⟩;clear h1 p1 q1 HQ;go_wp2_with fail;refine wp_loop_rounds 1 ?_;rw[rounds_succ];go_wp2_with fail;refine HI.out.mono ?_;rintro e w3 ⟨rfl,rfl⟩;go_wp2_with fail;go_ret;exact⟨_,rfl,HH.out⟩
theorem Fa(of:Int)(h0:0<=of)(h5:of<=5)(hq:eH 256 [Im (of+1)] s p r)(hl:lI r.2.k.text.data.toList=6):eH 256 [Im of] s p r:=by
 intro P w h;have HQ:Hid (Calls prog 256 #[Pt P 0,Im (of+1)] w fun e w'=>∃v,e=.returned v/\r.1.here r.1.at' w' w.heap.size w'.heap.size v/\aC w' P s r.2/\w.grownBy w' (some P)):=hq P w h;have HL:Hid (∀w,Calls prog 266 #[.string r.2.k.text] w fun e w'=>e=.returned (Im 6)/\w'=w):=fun w=>by
  have:=Vt r.2.k.text w;rw[hl]at this;exact this
 have c3:=bK.c3 h;have d6:(of==6)=false:=by simp;omega
 have d7:((6:Int)==of)=false:=by simp;omega
 clear h hq hl;show Calls prog 256 #[Pt P 0,Im of] w _;go_enter func256,ntmps256;go_wp2_with fail;refine HQ.out.mono ?_;rintro e w2 ⟨v,rfl,h3,p3,q3⟩;have c2:=bK.c2 p3;have HH:Hid (r.1.here r.1.at' w2 w.heap.size w2.heap.size v/\aC w2 P s r.2/\w.grownBy w2 (some P)):=⟨h3,p3,q3⟩;clear h3 p3 q3 HQ;go_wp2_with fail;refine wp_loop_rounds 1 ?_;rw[rounds_succ];go_wp2_with fail;refine(HL.out _).mono ?_;rintro e w3 ⟨rfl,rfl⟩;go_wp2_with fail;go_ret;exact⟨_,rfl,HH.out⟩
theorem abn(hb:kL p):eH 238 [] s p (qC,p.fail):=by
 have hp:Plain p:=⟨by rw[hb.1];decide,by rw[hb.1];decide,by rw[hb.1];decide⟩;have b0:eH 270 [] s p (qC,p.fail):=SK hp (hb.is (by simp)) (hb.is (by simp)) (hb.is (by simp)) (hb.is (by simp)) (hb.is (by simp)) (hb.is (by simp)) (hb.is (by simp));have b1:=PI (aau b0 ((kL.fail p).is (by simp))) (hb.is (by simp)) (hb.is (by simp));have o6:=WA b1;have hl:lI (qC,p.fail).2.k.text.data.toList=6:=rfl;have o5:=Fa 5 (by omega) (by omega) o6 hl;have o4:=Fa 4 (by omega) (by omega) o5 hl;have o3:=Fa 3 (by omega) (by omega) o4 hl;have o2:=Fa 2 (by omega) (by omega) o3 hl;have o1:=Fa 1 (by omega) (by omega) o2 hl;have o0:=Fa 0 (by omega) (by omega) o1 hl;exact TP o0
structure Nv(s:ByteArray):Prop where
 set:∀(d:Nat)(ex:Ps->Ex×Ps),Reader s ex d->∀p,p.Ok s->Deep (d+1) p->sV s p (kR s ex (s.size+1) p)
 Dq:∀(d:Nat)(ex:Ps->Ex×Ps),Reader s ex d->∀(x:Sx)(q:Ps)(kind:Int),q.Ok s->Deep (d+1) q->¬kL q->fM x->yu 278 kind s x q (Bg s ex x kind q)
theorem NW(hs:s.size<=4000)(hS:Nv s):∀(d:Nat),Reader s (pJ s d) d
 |0=>⟨CQ s 0,fun p _ hd=>by
   rcases hd with b|⟨_,h2,h3⟩
   .exact abn b
   .omega⟩
 |d+1=>by
  have ih:=NW hs hS d;refine⟨CQ s (d+1),fun p ok hd=>?_⟩;have hq:∀p,p.Ok s->Deep (d+1) p->(setOf p.k.text.data.toList).isSome=true->eH 275 [] s p (yS s (pJ s d) (s.size+1) p):=fun p ok hd _=>agw hs ih (s.size+1) (hS.set d _ ih) (hS.Dq d _ ih) ok hd;have hb:∀p,p.Ok s->Deep (d+1) p->eH 270 [] s p (oL s (pJ s d) (s.size+1) p):=fun p ok hd=>aaf hs ih (s.size+1) hq ok hd;have hbe:∀p,p.Ok s->Deep (d+1) p->eH 269 [] s p (vO s (pJ s d) (s.size+1) p):=fun p ok hd=>aav hs ih (s.size+1) (by omega) hb ok hd;have hmi:∀p,p.Ok s->Deep (d+1) p->eH 265 [] s p (tJ s (pJ s d) (s.size+1) (s.size+1) p):=fun p ok hd=>PK hs ih.dB (s.size+1) hbe (s.size+1) p ok hd (by have:=ok.tok.l9;omega);have h6:=Wx hs ih.dB (s.size+1) (by omega) hmi 6 (by omega) p ok hd;exact TP h6
end
end
section
open Go.RowKit Hx
section
variable {s:ByteArray}{p:Ps}
theorem X9(hs:s.size<=4000)(hS:Nv s):∀(d:Nat)(p:Ps),p.Ok s->Deep d p->Cc 141 s p (mF s d p)
 |0,p,ok,hd=>by
  have h:=X5 (s:=s) (st:=fun p=>(none,p)) (d:=0) (p:=p) (fun q _ _=>Or.inr rfl) (fun q _ hq=>by
   rcases hq with b|⟨_,h2,h3⟩
   .exact Ws (by rw[b.1];decide) (by rw[b.1];decide) (b.is (by simp)) (b.is (by simp)) (b.is (by simp)) (b.is (by simp)) (b.is (by simp))
   .omega) s.size (Nat.le_refl _) (by omega) ok hd
  exact h
 |d+1,p,ok,hd=>by
  have ih:=X9 hs hS d;have r1:=NW hs hS (d+1);have r0:=NW hs hS d;have gb:=SV (MF s d);have hblk:∀p,p.Ok s->Deep (d+1) p->Cc 241 s p (wZ s (mF s d) p):=fun p ok hd=>aaz hs (MF s d) ih ok hd;have hlen:∀p,(wZ s (mF s d) p).1.length<=1000000:=fun p=>by have:=aay s d p;omega
  have hst:=X7 (s.size+1) (CQ s (d+1)) (CQ s d) gb;exact X5 hst (fun q oq dq=>ail (s.size+1) (fun _=>ahV hs r1 oq dq) (fun k=>aiA hs r1 oq dq k) (fun t=>aes hs r1 oq dq t) (fun t=>af9 hs r0 oq dq t) (fun t=>agY hs oq t)
   (fun t=>aaR hs r1 gb hblk hlen oq dq t) (fun t=>aeh hs (s.size+1) r0 (hS.set d _ r0) gb hblk hlen oq dq t)) s.size (Nat.le_refl _) (by omega) ok hd
end
end
namespace Hx
def rD(s:ByteArray):Ps:=⟨scan s 0,0,0,0⟩
def CP(q:Ps):Ps:=if q.k.kind=1 then q else q.fail
def sF(r:List bI×Ps):List bI×Int×Int:=if (CP r.2).en=0 then (r.1,0,0)else ([],(CP r.2).en,(CP r.2).ea)
theorem WZ(s:ByteArray):(rD s).Ok s:=⟨(Qq s 0 (Nat.zero_le _)).1,by unfold aZ rD;simp,XE s 0 (Nat.zero_le _)⟩
theorem WY(s:ByteArray):Deep 21 (rD s):=Or.inr (by unfold rD;simp)
end Hx
section
open Go.RowKit Hx
attribute [local go_sem ↓] Go.wp_at_zero Go.wp_at_succ
attribute [local go_sem] bT
theorem LK(tmps:Array Value)(w:World)(g:Nat)(v:Value)(a b:Int)(h2:tmps[2]? =some v)(h3:tmps[3]? =some (Pt g 0))(h:w.heap[g]? =some (.cells #[Im a,Im b] 107)):
 (results Tryz.f88 tmps).run prog w=.ok (.tuple #[v,.agg #[Im a,Im b]]) w:=by
 have q0:w.cell? (Ad g 0)=some (Im a):=aA h;have q1:w.cell? (Ad g 1)=some (Im b):=aA h;simp[results,Tryz.results88,go_sem,h2,h3,q0,q1]
end
end Go.Proofs.YthllhabjfchgiaaGreatDoor
