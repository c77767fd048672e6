import Derived.Test.YthllhabjfchgiaaGreatDoorHs24
set_option maxRecDepth 100000
set_option maxHeartbeats 8000000
set_option linter.unusedSimpArgs false
namespace Go.Proofs.YthllhabjfchgiaaGreatDoor
open _root_.Go.Proofs.Tryz
section
open Go.RowKit Hx
attribute [local go_sem ↓] Go.wp_at_zero Go.wp_at_succ
attribute [local go_sem] kN
section
variable {w w' w2 wy:jk}{C:Nat}{c:Co}{v nv u:jm}
theorem NV(h:kG w C c):Calls prog 306 #[Pt C 0] w λe w'=>e=.returned (Im c.hold.2)/\kG w' C c.hold.1/\Gk w w' C:=by
 obtain⟨v,nv,h⟩:=h;have f:=jJ 2 h.jM rfl;have g:=qV h.jM;have d:Hid (kG (w.setCell (Ad C 2) (Im (wrap64 (c.free+1)))) C c.hold.1/\Gk w (w.setCell (Ad C 2) (Im (wrap64 (c.free+1)))) C):=⟨⟨v,nv,h.kC _⟩,Gk.free _ _ _⟩;clear h;unfold Co.hold at *;simp only at d⊢;go_enter func306,ntmps306;go_wp2_with fail;go_ret;exact⟨rfl,d.out⟩
theorem NU(h:kG w C c)(f:Int):Calls prog 364 #[Pt C 0,Im f] w λe w'=>e=.returned (Im (c.choose f).2)/\kG w' C (c.choose f).1/\Gk w w' C:=by
 have m:=jA (NV h);have k:Hid (kG w C c/\Gk w w C):=⟨h,Gk.refl _ _⟩;clear h;unfold Co.choose;by_cases hi:f= -1
 .rw[jh hi];subst hi;go_enter func364,ntmps364;go_wp2_with fail;refine m.out.mono ?_;rintro e w1 ⟨rfl,g,i⟩;have j:=jA (jd g i);clear g i;go_wp2_with fail;go_ret;exact⟨rfl,j.out⟩
 .rw[jg hi];have d:(f== -1)=false:=by simp[hi]
  go_enter func364,ntmps364;go_wp2_with fail;go_ret;exact⟨rfl,k.out⟩
def Eo(ns:List (ji×Int))(t:ji):Int:=((ns.find? λn=>n.1.data.toList==t.data.toList).map (·.2)).getD (-1)
theorem atF(ns:List (ji×Int))(t:ji)(i:Nat)(k:ji×Int)(h:ns[i]? =some k):Eo (ns.drop i) t=if k.1.data.toList==t.data.toList then k.2 else Eo (ns.drop (i+1)) t:=by
 obtain⟨hi,d⟩:=List.getElem?_eq_some_iff.1 h;rw[dA hi,d];unfold Eo;rw[fF];cases (k.1.data.toList==t.data.toList)<;>rfl
theorem acV(h:kG w C c)(t:ji)(X:c.jy.length<=4000000):Calls prog 314 #[Pt C 0,.string t] w λx w'=>x=.returned (Im (c.wK t))/\w.grownBy w' none:=by
 obtain⟨v,nv,h⟩:=h;obtain⟨a,H,rfl⟩:=BG h.jy;have W:=h.lt;have V:=jJ 1 h.jM rfl;have G:=jA h.jy;clear h;have F:Hid (Eo c.jy t=Eo (c.jy.drop 0) t):=rfl;show Calls prog 314 #[Pt C 0,.string t] w λx w'=>x=.returned (Im (Eo c.jy t))/\w.grownBy w' none;generalize o:Eo c.jy t=r at *;clear o;generalize c.jy=d at *;go_enter func314,ntmps314;go_wp2_with fail;go_loopg [12] (d.length+1) (λJ i wr=>Hid (∃k:Nat,k+J=d.length+1/\k<=d.length/\i=Im k/\r=Eo (d.drop k) t/\w.grownBy wr none))
 case atStart=>exact⟨0,by omega,bD _,rfl,F.out,aN _ _⟩
 case round=>
  obtain⟨k,N,O,rfl,o,A⟩:=hrel.out;clear hrel;have p:Hid (w.grownBy wr none):=A;by_cases P:k<d.length
  .have I:decide ((k:Int)<(d.length:Int))=true:=by simp;omega
   have Y:(0:Int)<=(k:Int):=by omega
   have Z:(k:Int)<(d.length:Int):=by omega
   have f:d[k]? =some d[k]:=by simp
   obtain⟨s,E⟩:=ae6 d k _ f;obtain⟨g,z,K,M,n⟩:=afO G.out s;subst z;have Q:=(p.out.cell (n _ _ s) (by simp));have R:=(p.out.cell (n _ _ E) (by simp));have j:Hid (r=if d[k].1.data.toList==t.data.toList then d[k].2 else Eo (d.drop (k+1)) t):=by rw[o];exact atF d t k _ f
   obtain⟨y,L⟩:∃y,gk=y+1:=⟨gk-1,by omega⟩;clear o A f s E n;generalize d[k]=U at *;obtain⟨D,S⟩:=U;simp only at Q R j;cases q:(D.data.toList==t.data.toList)with
   |true=>
    have B:(D.toList==t.toList)=true:=by rw[aZ,aZ];exact q
    have m:Hid (r=S):=by have:=j.out;rw[q]at this;exact this
    clear j;go_wp2_with fail;go_ret;exact⟨by rw[m.out];rfl,p.out.trans (ah _ _ none)⟩
   |false=>
    have B:(D.toList==t.toList)=false:=by rw[aZ,aZ];exact q
    have m:Hid (r=Eo (d.drop (k+1)) t):=by have:=j.out;rw[q]at this;exact this
    clear j;go_wp2_with fail;go_roundg y
    case measure=>omega
    case rel=>exact⟨k+1,by omega,by omega,by go_num,m.out,p.out.trans (ah _ _ none)⟩
  .have I:decide ((k:Int)<(d.length:Int))=false:=by simp;omega
   have j:Hid (r= -1):=by rw[o,fH (by omega)];rfl
   clear o A;go_wp2_with fail;go_ret;exact⟨by rw[j.out];rfl,p.out⟩
theorem anA:(prog.info? 448).map (λi=>(i.zero,i.size,i.bytes))=some (some (.agg #[.string ⟨#[]⟩,Im 0]),2,24):=by kernel_rfl
theorem Vu(h:kG w C c)(t:ji)(Q slot:Int)(Y:c.jy.length<=4000000):
 Calls prog 324 #[Pt C 0,.agg #[.string t,Im Q],Im slot] w λL w'=>L=.returned (.tuple #[])/\kG w' C (c.know t slot)/\Gk w w' C:=by
 obtain⟨v,nv,h⟩:=h;obtain⟨a,i,rfl⟩:=BG h.jy;have M:=h.lt;have V:=jJ 1 h.jM rfl;obtain⟨P,B,F,G,H⟩:=info_parts anA;have y:Hid (∀(o j:Obj)(n:Nat)(w1:jk)(u:jm),(((w.alloc o).alloc j).drewN n).grownBy w1 (Value.slice a c.jy.length i).ownBlock->w1.ownsRow (C+1) 448 2 u (c.jy.length+1) (wC c.jy++[.string t,Im slot])->(∀k,u.ownBlock=some k->(Value.slice a c.jy.length i).ownBlock=some k\/(((w.alloc o).alloc j).drewN n).heap.size<=k)->
  kG (w1.setCell (Ad C 1) u) C (c.know t slot)/\Gk w (w1.setCell (Ad C 1) u) C/\(∃u,w1.cell? (Ad C 1)=some u)/\w1.frozen? (Ad C 1)=false):=by
  intro o j n w1 u A O g;have s:=((ah w o none).trans (ah _ j none)).trans (lu _ n);have p:=h.grow s;have K:wC (c.jy++[(t,slot)])=wC c.jy++[.string t,Im slot]:=by simp[wC]
  have E:w1.ownsRow (C+1) 448 2 u (c.jy++[((t,slot):ji×Int)]).length (wC (c.jy++[(t,slot)])):=by rw[K];simpa using O
  have q:=(A.block C p.lt (λe=>by have:=p.Je C e.symm;omega)).trans p.jM;refine⟨⟨v,u,p.O9 A E g⟩,(Gk.grown s M).trans (p.ac0 A g),⟨.slice a c.jy.length i,jG q⟩,nA q⟩
 have J:Hid (∀(o j:Obj)(n:Nat),(((w.alloc o).alloc j).drewN n).ownsRow (C+1) 448 2 (.slice a c.jy.length i) c.jy.length (wC c.jy)):=λo j n=>
  (h.grow (((ah w o none).trans (ah _ j none)).trans (lu _ n))).jy
 have D:c.jy.length+1<=maxLen:=by unfold maxLen;omega
 have z:(c.jy.length+1) * 24<=140737488355328:=by omega
 have Z:¬C=w.heap.size:=by omega
 have n2:C<w.heap.size+1:=by omega
 clear h;generalize c.know t slot=W at *;generalize wC c.jy=m at *;generalize c.jy.length=x at *;go_enter func324,ntmps324;go_wp2_with fail;go_region_law ((refine step_append_lies _ (by rfl) _ _ _ (by rfl) (C+1) 448 P _ 2 24 Tryz.underlying195 B F G H (by rfl) (by omega) (.slice a x i) x m (by rfl) (J.out _ _ 1) (Ad (w.heap.size+1) 0) 1 1 [.string t,Im slot] (by rfl) (by rfl) (fM (cs:=#[.string t,Im slot]) (t:=448) (fr:=(0,0)) (VO w _ _)) (by simp[Value.oneCell']) (by omega) D z (by simp;omega) (w.heap.size+1+1) (by simp) ?_;intro X I w3 f d g N;obtain⟨R,S⟩:=(y.out _ _ 1 _ _ d f (Ht g)).2.2.1;have U:=(y.out _ _ 1 _ _ d f (Ht g)).2.2.2));all_goals (go_wp2;go_end0;exact⟨rfl,(y.out _ _ 1 _ _ d f (Ht g)).1,(y.out _ _ 1 _ _ d f (Ht g)).2.1⟩)
def EM(w:jk)(C:Nat)(u:jm)(ns:List Int):Prop:=(ns=[]/\u=Nl)\/∃b,u=.slice (some (Ad b 0)) ns.length ns.length/\ED w C b (.cells (ns.map (Value.int .i64)).toArray 3)
theorem EM.gk{ns:List Int}(h:EM w C u ns)(g:Gk w w' C):EM w' C u ns:=by
 rcases h with h|⟨b,d,f⟩
 .exact jf h
 .exact je ⟨b,d,f.gk g⟩
theorem EM.form{ns:List Int}(h:EM w C u ns):∃a,u=.slice a ns.length ns.length:=by
 rcases h with⟨rfl,rfl⟩|⟨b,rfl,_⟩
 .exact⟨none,rfl⟩
 .exact⟨_,rfl⟩
theorem EM.get{ns:List Int}{a:Option Addr}(h:EM w C (.slice a ns.length ns.length) ns){k:Nat}{x:Int}(d:ns[k]? =some x):∃b,a=some (Ad b 0)/\w.cell? (Ad b k)=some (Im x):=by
 rcases h with⟨rfl,_⟩|⟨b,e,f⟩
 .simp at d
 .cases e;refine⟨b,rfl,(jG f.at').trans ?_⟩;simp[d]
structure Na(w wr:jk)(C:Nat)(c:Co)(u:jm)(ns:List Int):Prop where
 co:kG wr C c
 Xp:EM wr C u ns
 keep:Gk w wr C
theorem aot(c:Co)(o:Int)(ns:List Int)(k:Nat)(x:Int)(h:ns[k]? =some x):(c.lay o (ns.take (k+1))).code=(c.lay o (ns.take k)).code++pY x:=by
 have d:ns.take (k+1)=ns.take k++[x]:=by rw[fU,h];rfl
 rw[d];simp[Co.lay]
theorem acS(h:kG w C c)(o:Int)(ns:List Int)(Y:EM w C u ns)(hl:ns.length<=100)(hn:c.code.length<=900000000):
 Calls prog 92 #[Pt C 0,.int .u8 o,u] w λe w'=>e=.returned (.tuple #[])/\kG w' C (c.lay o ns)/\Gk w w' C:=by
 obtain⟨v,nv,h⟩:=h;obtain⟨a,rfl⟩:=Y.form;obtain⟨L,M,rfl⟩:=BG h.code;obtain⟨i0,hi,aa,ab,ac⟩:=info_parts adO;have hC:=h.lt;have c0:=jJ 0 h.jM rfl;have HO:=jA (λE=>h.code.alloc E);have N:Hid (∀E w1 g d,(w.alloc E).grownBy w1 (Value.slice L c.code.length M).ownBlock->w1.ownsRow (C+1) 5 1 (.slice (some (Ad g 0)) (c.code.length+1) d) (c.code.length+1) (uI c.code++[.int .u8 o])->((Value.slice L c.code.length M).ownBlock=some g\/g=w.heap.size+1)->
  Na w (w1.setCell (Ad C 0) (.slice (some (Ad g 0)) (c.code.length+1) d)) C (c.lay o (ns.take 0)) (.slice a ns.length ns.length) ns/\w1.cell? (Ad C 0)=some (.slice L c.code.length M)/\∀j,w1.frozen? (Ad C j)=false):=by
  intro E w1 g d W ho p;have I:=ah w E none;have G:=h.grow I;have f:∀k,(Value.slice (some (Ad g 0)) (c.code.length+1) d).ownBlock=some k->(Value.slice L c.code.length M).ownBlock=some k\/(w.alloc E).heap.size<=k:=λk A=>by
   simp only[Value.ownBlock,bJ]at A;subst A;exact p.imp id (λe=>by simp;omega)
  have F:uI (c.code++[o])=uI c.code++[.int .u8 o]:=by simp[uI]
  have D:w1.ownsRow (C+1) 5 1 (.slice (some (Ad g 0)) (c.code.length+1) d) (c.code++[o]).length (uI (c.code++[o])):=by rw[F];simpa using ho
  have A:=(Gk.grown I hC).trans (G.acZ W f);have s:=(W.block C G.lt (λe=>by have:=G.Ig C e.symm;omega)).trans G.jM;exact⟨⟨⟨_,nv,by simpa [Co.lay]using G.agT W D f⟩,Y.gk A,A⟩,jG s,λj=>nA s⟩
 have n1:¬C=w.heap.size:=by omega
 have HL:Hid (∀k,k<=ns.length->(c.lay o (ns.take k)).code.length<=990000000):=λk A=>by
  have:=oN c o (ns.take k);have:(ns.take k).length<=ns.length:=by rw[gI];omega
  omega
 have HB:Hid (∀(k:Nat)(x:Int)(wr:jk),ns[k]? =some x->Na w wr C (c.lay o (ns.take k)) (.slice a ns.length ns.length) ns->∃y,wr.cell? (Ad C 0)=some y/\Calls prog 144 #[y,Im x] wr λe w'=>∃g m d,e=.returned (.slice (some (Ad g 0)) m d)/\Na w (w'.setCell (Ad C 0) (.slice (some (Ad g 0)) m d)) C (c.lay o (ns.take (k+1))) (.slice a ns.length ns.length) ns/\(∃y,w'.cell? (Ad C 0)=some y)/\∀j,w'.frozen? (Ad C j)=false):=λk x wr hx q=>by
  obtain⟨⟨v1,Am,B⟩,k2,k3⟩:=q;have X:k<ns.length:=(List.getElem?_eq_some_iff.1 hx).1;refine⟨v1,jG B.jM,(ajN _ _ x B.code (by have:=B.lt;omega) (by have:=HL.out k (by omega);omega)).mono ?_⟩;rintro e w' ⟨g,d,F,R,S,e4⟩;have f:∀P,(Value.slice (some (Ad g 0)) ((c.lay o (ns.take k)).code.length+(pY x).length) d).ownBlock=some P->v1.ownBlock=some P\/wr.heap.size<=P:=λP J=>by
   simp only[Value.ownBlock,bJ]at J;subst J;exact e4
  have e5:uI ((c.lay o (ns.take k)).code++pY x)=uI (c.lay o (ns.take k)).code++uI (pY x):=by simp[uI]
  have D:w'.ownsRow (C+1) 5 1 (.slice (some (Ad g 0)) ((c.lay o (ns.take k)).code.length+(pY x).length) d) ((c.lay o (ns.take k)).code++pY x).length (uI ((c.lay o (ns.take k)).code++pY x)):=by rw[e5,aA];exact R
  have A:=B.acZ S f;have s:=(S.block C B.lt (λe=>by have:=B.Ig C e.symm;omega)).trans B.jM;refine⟨g,_,d,F,⟨⟨.slice (some (Ad g 0)) ((c.lay o (ns.take k)).code.length+(pY x).length) d,Am,?_⟩,k2.gk A,k3.trans A⟩,⟨v1,jG s⟩,λj=>nA s⟩;have:=B.agT S D f;rw[<-aot c o ns k x hx]at this;exact this
 have HZ:Hid (∀wr,Na w wr C (c.lay o (ns.take ns.length)) (.slice a ns.length ns.length) ns->kG wr C (c.lay o ns)/\Gk w wr C):=λwr q=>by
  have h1:=q.co;rw[eU (aj _)]at h1;exact⟨h1,q.keep⟩
 clear h Y;generalize Z:uI c.code=xs at *;clear Z;generalize hm:c.code.length=m at *;go_enter func92,ntmps92;go_wp2_with (at_builtin;refine wpList_append_lies _ rfl _ _ 194 rfl (C+1) 5 i0 (.int .u8 0) 1 1 Tryz.underlying194 hi aa ab ac rfl (by decide) (.slice L m M) m xs rfl (HO.out _) (Ad w.heap.size 0) 1 1 [.int .u8 o] rfl rfl (cell_one_new _ _ _) (by simp[Value.oneCell']) (by decide) (by unfold maxLen;omega) (by omega) (by simp;omega) (w.heap.size+1) (by simp) ?_;intro g d w2 n z p ai;have F:=(N.out _ _ _ _ z n p).2.1;have R:=(N.out _ _ _ _ z n p).2.2);have HQ:=jA ((N.out _ _ _ _ z n p).1);clear n z p F R N HO;generalize w2.setCell (Ad C 0) (.slice (some (Ad g 0)) (m+1) d)=w3 at *;go_loopg [20] (ns.length+1) (λgg i wr=>Hid (∃k:Nat,k+gg=ns.length+1/\k<=ns.length/\i=Im k/\Na w wr C (c.lay o (ns.take k)) (.slice a ns.length ns.length) ns))
 case atStart=>exact⟨0,by omega,bD _,rfl,HQ.out⟩
 case round=>
  obtain⟨k,af,ag,rfl,q⟩:=hrel.out;clear hrel HQ;by_cases X:k<ns.length
  .have d1:decide ((k:Int)<(ns.length:Int))=true:=by simp;omega
   have i1:(0:Int)<=(k:Int):=by omega
   have i2:(k:Int)<(ns.length:Int):=by omega
   have t:ns[k]? =some ns[k]:=by simp
   obtain⟨b,V,kc⟩:=q.Xp.get t;subst V;obtain⟨y,hy,O⟩:=HB.out k _ wr t q;have O:=jA O;obtain⟨U,ae⟩:∃U,gk=U+1:=⟨gk-1,by omega⟩;clear q t;generalize ns[k]=x at *;go_wp2_with fail;refine O.out.mono ?_;rintro e w4 ⟨g4,m4,ad,rfl,H,⟨y4,ak⟩,fz⟩;have Q:=jA H;clear H O;go_wp2_with fail;go_roundg U
   case measure=>omega
   case rel=>exact⟨k+1,by omega,by omega,by go_num,Q.out⟩
  .have d1:decide ((k:Int)<(ns.length:Int))=false:=by simp;omega
   have K:k=ns.length:=by omega
   have HE:=jA (HZ.out wr (by rw[K]at q;exact q));clear q K;go_wp2_with fail;go_end0;exact⟨rfl,HE.out⟩
end
section
variable {w w' w1 w2:jk}{C lo hi b:Nat}{c:Co}{u:jm}{e l r:Ex}{a:Int}{T:jo}
structure Room(c:Co)(k:Int):Prop where
 jw:k<=1000000
 code:(c.code.length:Int)+200 * k<=800000000
 jy:(c.jy.length:Int)+k<=3000000
structure Jy(e:Ex):Prop where
 law:∀a,Lawful (e.here a)
 head:∀a w lo hi v,e.here a w lo hi v->∃T b,v=.iface T (Pt b 0)/\lQ T/\lo<=b/\b<hi/\w.cell? (Ad b 0)=some (Im a)/\w.cell? (Ad b 1)=some (Im e.jw)/\∀j,w.frozen? (Ad b j)=false
 jw:0<=e.jw/\e.jw<=1000001
theorem kT.base{e:Ex}(h:kT e):Jy e:=⟨h.law,h.head,h.jw⟩
def vF(T' T:jo)(at' jw kind:Int)(K:Hx.Kids)(mk:List jm->List jm)(dn:Dn:={}):Ex:=
 ⟨at',jw,λa w lo hi v=>∃b us,v=.iface T' (Pt b 0)/\lo<=b/\b<hi/\K w lo hi us/\w.heap[b]? =some (.cells (Im a::Im jw::Im kind::mk us).toArray T),dn⟩
theorem KW{T' T:jo}{at' jw kind:Int}{K:Hx.Kids}{mk:List jm->List jm}{dn:Dn}(o:lQ T')(m:zh K)(p:0<=jw/\jw<=1000001):Jy (vF T' T at' jw kind K mk dn):=by
 refine⟨λa=>⟨?_,?_⟩,?_,p⟩
 .rintro w w' lo hi v ⟨b,k,h,f,g,i,d⟩ n;exact⟨b,k,h,f,g,m.loc _ _ _ _ _ i n,(n b f g).trans d⟩
 .rintro w lo hi x q v ⟨b,k,h,f,g,i,d⟩ s t;exact⟨b,k,h,by omega,by omega,m.wide _ _ _ _ _ _ i s t,d⟩
 .rintro a w lo hi v ⟨b,k,h,f,g,i,d⟩;exact⟨T',b,h,o,f,g,jG d,jG d,λj=>nA d⟩
theorem KZ{T' T:jo}{at' jw kind:Int}{K g:Hx.Kids}{mk:List jm->List jm}{dn f:Dn}{v:jm}(n:∀w lo b hi d,K w lo b d->b<=hi->g w lo hi d)(h:(rH T' T at' jw kind K mk dn).here a w lo hi v):(vF T' T at' jw kind g mk f).here a w lo hi v:=by
 obtain⟨b,d,o,i,j,k,m⟩:=h;exact⟨b,d,o,i,j,n _ _ _ _ _ k (by omega),m⟩
def Bo(E F:Hx.tk):Hx.Kids:=λw lo hi us=>∃u v,us=[u,v]/\E w lo hi u/\F w lo hi v
theorem Rk{E F:Hx.tk}(h:Lawful E)(k:Lawful F):zh (Bo E F):=
 ⟨λ_ _ _ _ _ ⟨u,v,e,d,f⟩ g=>⟨u,v,e,h.loc _ _ _ _ _ d g,k.loc _ _ _ _ _ f g⟩,λ_ _ _ _ _ _ ⟨u,v,e,d,f⟩ i j=>⟨u,v,e,h.wide _ _ _ _ _ _ d i j,k.wide _ _ _ _ _ _ f i j⟩⟩
theorem Rh{E:Hx.tk}(h:Lawful E)(w:jk)(lo b hi:Nat)(d:List jm)(k:oD E w lo b d)(f:b<=hi):oD E w lo hi d:=(qW h).wide _ _ _ _ _ _ k (aj _) f
theorem ad9{E F:Hx.tk}(h:Lawful E)(k:Lawful F)(w:jk)(lo b hi:Nat)(d:List jm)(i:yC E F w lo b d)(g:b<=hi):Bo E F w lo hi d:=by
 obtain⟨m,u,v,e,f,o,j,n⟩:=i;exact⟨u,v,e,h.wide _ _ _ _ _ _ j (aj _) (by omega),k.wide _ _ _ _ _ _ n f g⟩
structure kF(e:Ex):Prop where
 ok:Jy e
 jy:∀c into,(e.does.give c into).1.jy=c.jy
 len:∀c into,e.jw<=1000000->((e.does.give c into).1.code.length:Int)<=c.code.length+200 * e.jw+50
 give:∀a w lo hi T b C c into,e.here a w lo hi (.iface T (Pt b 0))->hi<=C->kG w C c->Room c e.jw->
  ∃f,(∀w,(method 576 T (Pt b 0) "helm/lang.give").run prog w=.ok (f,Pt b 0) w)/\Enters f/\
   Calls prog f #[Pt b 0,Pt C 0,Im into] w λen w'=>en=.returned (Im (e.does.give c into).2)/\kG w' C (e.does.give c into).1/\Gk w w' C
theorem kF.of{e f:Ex}(h:kF f)(q:Jy e)(m:∀a w lo hi v,e.here a w lo hi v->f.here a w lo hi v)(g:e.jw=f.jw)(i:e.does.give=f.does.give):kF e:=
 ⟨q,λc d=>by rw[i];exact h.jy c d,λc d n=>by rw[i,g];exact h.len c d (by rw[<-g];exact n),λa w lo hi T b C c d p j k o=>by rw[i];exact h.give a w lo hi T b C c d (m _ _ _ _ _ p) j k (by rw[<-g];exact o)⟩
theorem JX(c:Co)(d:Int):(c.choose d).1.jy=c.jy:=by unfold Co.choose;split<;>rfl
theorem DR(c:Co)(d:Int):(c.choose d).1.code=c.code:=by unfold Co.choose;split<;>rfl
theorem I8(c:Co)(o:Int)(ns:List Int):(c.lay o ns).jy=c.jy:=rfl
theorem SS(c:Co)(f:Int):(c.kC f).jy=c.jy:=rfl
theorem FK(c:Co)(f:Int):(c.kC f).code=c.code:=rfl
theorem GU(h:kG w C c)(o:Int)(d:c.code.length<=900000000):Calls prog 92 #[Pt C 0,.int .u8 o,Nl] w λe w'=>e=.returned (.tuple #[])/\kG w' C (c.lay o [])/\Gk w w' C:=
 acS h o [] (jf ⟨rfl,rfl⟩) (by simp) d
theorem QI(h:kG w C c)(o:Int)(ns:List Int)(j:ns.length<=100)(k:c.code.length<=900000000):Calls prog 92 #[Pt C 0,.int .u8 o,.slice (some (Ad w.heap.size 0)) ns.length ns.length] (w.alloc (.cells (ns.map (Value.int .i64)).toArray 3)) λe w'=>e=.returned (.tuple #[])/\kG w' C (c.lay o ns)/\Gk w w' C:=by
 have g:=ah w (.cells (ns.map (Value.int .i64)).toArray 3) none;refine(acS (h.grow g) o ns (je ⟨w.heap.size,rfl,ED.new h _⟩) j k).mono ?_;rintro e w' ⟨d,f,i⟩;exact⟨d,f,(Gk.grown g h.lt).trans i⟩
theorem acT(h:kG w C c)(o d:Int)(f:c.code.length<=900000000):Calls prog 92 #[Pt C 0,.int .u8 o,.slice (some (Ad w.heap.size 0)) 1 1] (w.alloc (.cells #[Im d] 3)) λe w'=>e=.returned (.tuple #[])/\kG w' C (c.lay o [d])/\Gk w w' C:=QI h o [d] (by simp) f
theorem Bf(h:kG w C c)(o d f:Int)(g:c.code.length<=900000000):Calls prog 92 #[Pt C 0,.int .u8 o,.slice (some (Ad w.heap.size 0)) 2 2] (w.alloc (.cells #[Im d,Im f] 3)) λe w'=>e=.returned (.tuple #[])/\kG w' C (c.lay o [d,f])/\Gk w w' C:=QI h o [d,f] (by simp) g
theorem QH(h:kG w C c)(o d f g:Int)(i:c.code.length<=900000000):Calls prog 92 #[Pt C 0,.int .u8 o,.slice (some (Ad w.heap.size 0)) 3 3] (w.alloc (.cells #[Im d,Im f,Im g] 3)) λe w'=>e=.returned (.tuple #[])/\kG w' C (c.lay o [d,f,g])/\Gk w w' C:=QI h o [d,f,g] (by simp) i
theorem alZ(h:kG w C c)(o d f g i:Int)(j:c.code.length<=900000000):Calls prog 92 #[Pt C 0,.int .u8 o,.slice (some (Ad w.heap.size 0)) 4 4] (w.alloc (.cells #[Im d,Im f,Im g,Im i] 3)) λe w'=>e=.returned (.tuple #[])/\kG w' C (c.lay o [d,f,g,i])/\Gk w w' C:=QI h o [d,f,g,i] (by simp) j
theorem afe(E n jw kind:Int)(i:0<=jw/\jw<=1000001)(dn:Dn)(j:dn.give=wZ n):kF (vF 405 407 E jw kind zH (λ_=>[Im n]) dn):=by
 refine⟨KW (by simp[lQ]) C9 i,λc d=>by show(dn.give c d).1.jy=_;rw[j];exact JX c d,λc d _=>?_,?_⟩
 .show((dn.give c d).1.code.length:Int)<=c.code.length+200 * jw+50;rw[j];show((((c.choose d).1.lay 6 [(c.choose d).2,n]).code.length:Nat):Int)<=c.code.length+200 * jw+50;have f:=oN (c.choose d).1 6 [(c.choose d).2,n];rw[DR]at f;simp only[aF,bg]at f;omega
 rintro a w lo hi T b C c d ⟨I,O,G,f,K,L,q⟩ M s x;cases G;have F:=jJ 3 q rfl;refine⟨389,λw=>by kernel_rfl,λp w=>by kernel_rfl,?_⟩;show Calls prog 389 #[Pt b 0,Pt C 0,Im d] w λh w'=>h=.returned (Im (dn.give c d).2)/\kG w' C (dn.give c d).1/\Gk w w' C;rw[j];show Calls prog 389 #[Pt b 0,Pt C 0,Im d] w λh w'=>h=.returned (Im (c.choose d).2)/\kG w' C ((c.choose d).1.lay 6 [(c.choose d).2,n])/\Gk w w' C;have g:=jA (NU s d);have t:(c.choose d).1.code.length<=900000000:=by rw[DR];have f:(c.code.length:Int)+200 * jw<=800000000:=x.code;omega
 clear q s x;generalize c.choose d=k at *;obtain⟨N,H⟩:=k;simp only at g t⊢;go_enter func389,ntmps389;go_wp2_with fail;refine g.out.mono ?_;rintro e w1 ⟨rfl,y,m⟩;have J:=(m.cell (by omega)).trans F;have o:=jA (Bf y 6 H n t);have D:=jA m;clear y m g;go_wp2_with fail;refine o.out.mono ?_;rintro e P ⟨rfl,z,A⟩;have B:=jA (jd z (D.out.trans A));clear z A o;go_wp2_with fail;go_ret;exact⟨rfl,B.out⟩
theorem aff(d n:Int):kF (Ak d n):=(afe d n 1 1 (by omega) (afd n) rfl).of (Xn d n).base (λ_ _ _ _ _ h=>KZ (λ_ _ _ _ _ h _=>h) h) rfl rfl
theorem ah3(I jw kind:Int)(t:Bool)(f:0<=jw/\jw<=1000001)(dn:Dn)(j:dn.give=Ic t):kF (vF 392 394 I jw kind zH (λ_=>[.bool t]) dn):=by
 have K:=f.1;refine⟨KW (by simp[lQ]) C9 f,λc d=>by show(dn.give c d).1.jy=_;rw[j];exact JX c d,λc d _=>?_,?_⟩
 .show((dn.give c d).1.code.length:Int)<=c.code.length+200 * jw+50;rw[j];show((((c.choose d).1.lay 6 [(c.choose d).2,if t then 1 else 0]).code.length:Nat):Int)<=c.code.length+200 * jw+50;have i:=oN (c.choose d).1 6 [(c.choose d).2,if t then 1 else 0];rw[DR]at i;simp only[aF,bg]at i;omega
 rintro a w lo hi T b C c d ⟨N,U,L,i,P,Q,s⟩ R y A;cases L;have J:=jJ 3 s rfl;refine⟨380,λw=>by kernel_rfl,λq w=>by kernel_rfl,?_⟩;show Calls prog 380 #[Pt b 0,Pt C 0,Im d] w λh w'=>h=.returned (Im (dn.give c d).2)/\kG w' C (dn.give c d).1/\Gk w w' C;rw[j];show Calls prog 380 #[Pt b 0,Pt C 0,Im d] w λh w'=>h=.returned (Im (c.choose d).2)/\kG w' C ((c.choose d).1.lay 6 [(c.choose d).2,if t then 1 else 0])/\Gk w w' C;have g:=jA (NU y d);have m:(c.code.length:Int)+200 * jw<=800000000:=A.code;have z:(c.choose d).1.code.length<=900000000:=by
  rw[DR];omega
 have H:Hid (∀x,Calls prog 152 #[.bool t] x λe w'=>e=.returned (Im (if t then 1 else 0))/\w'=x):=λx=>LU t x;clear s y A m;generalize c.choose d=k at *;generalize (if t then (1:Int)else 0)=n at *;obtain⟨S,M⟩:=k;simp only at g z⊢;go_enter func380,ntmps380;go_wp2_with fail;refine g.out.mono ?_;rintro e w1 ⟨rfl,B,o⟩;have O:=(o.cell (by omega)).trans J;have p:=jA (Bf B 6 M n z);have G:=jA o;clear B o g;go_wp2_with fail;refine(H.out _).mono ?_;rintro e w2 ⟨rfl,rfl⟩;go_wp2_with fail;refine p.out.mono ?_;rintro e V ⟨rfl,D,E⟩;have F:=jA (jd D (G.out.trans E));clear D E p;go_wp2_with fail;go_ret;exact⟨rfl,F.out⟩
theorem Yx{f jw kind:Int}{t:Bool}(d:kT (AB f jw kind t)):kF (AB f jw kind t):=(ah3 f jw kind t d.jw (ah2 kind t) rfl).of d.base (λ_ _ _ _ _ h=>KZ (λ_ _ _ _ _ h _=>h) h) rfl rfl
theorem au1(a:Int)(b:Bool):kF (AB a 1 2 b):=Yx (TJ a 2 b)
theorem ae7:kF rJ:=Yx Hq
theorem agx(f i:Int):kF (Ee f i):=by
 refine⟨(XP f i).base,λc d=>rfl,λc d _=>?_,?_⟩
 .show((c.code.length:Nat):Int)<=c.code.length+200 * 1+50;omega
 rintro a w lo hi T b C c d ⟨o,y,n,q,s,t,h⟩ x j m;cases n;have p:=jJ 3 h rfl;refine⟨374,λw=>by kernel_rfl,λg w=>by kernel_rfl,?_⟩;have k:Hid (kG w C c/\Gk w w C):=⟨j,Gk.refl _ _⟩;clear h j m;go_enter func374,ntmps374;go_wp2_with fail;go_ret;exact⟨rfl,k.out⟩
theorem aij(f:Int)(t:Wd):kF (nK f t):=by
 obtain⟨o,x⟩:=t;refine⟨(aac f _).base,λc d=>rfl,λc d _=>?_,?_⟩
 .show((c.code.length:Nat):Int)<=c.code.length+200 * 1+50;omega
 rintro a w lo hi T b C c d ⟨k,y,F,s,A,B,D,m⟩ E h n;cases s;have z:=jJ 3 m rfl;refine⟨377,λw=>by kernel_rfl,λj w=>by kernel_rfl,?_⟩;have q:=jA (acV h o (by have:=n.jy;have:(nK f ⟨o,x⟩).jw=1:=rfl;omega));have i:=jA h;clear m h n;go_enter func377,ntmps377;go_wp2_with fail;refine q.out.mono ?_;rintro e w1 ⟨rfl,g⟩;have p:=jA (jd (i.out.grow g) (Gk.grown g i.out.lt));clear g;go_wp2_with fail;go_ret;exact⟨rfl,p.out⟩
theorem ait{e:Ex}(h:kF e)(a:Int):kF (e.widen a):=⟨⟨h.ok.law,h.ok.head,h.ok.jw⟩,h.jy,h.len,h.give⟩
theorem Room.less{k m:Int}(h:Room c m)(d:k<=m):Room c k:=⟨by have:=h.jw;omega,by have:=h.code;omega,by have:=h.jy;omega⟩
theorem kF.NH(h:kF e)(f:Room c e.jw)(d:Int):(e.does.give c d).1.code.length<=850000000:=by
 have g:=h.len c d f.jw;have i:=f.code;omega
theorem al0(q:kF e)(s:e.here e.at' w lo hi u)(Q:hi<=C)(z:kG w C c)(t:Room c e.jw)(o d:Int):
 Calls prog 368 #[Pt C 0,.int .u8 o,Im d,u] w λn w'=>n=.returned (Im (c.one o d e.does).2)/\kG w' C (c.one o d e.does).1/\Gk w w' C:=by
 obtain⟨Z,N,rfl,_⟩:=q.ok.head _ _ _ _ _ s;obtain⟨p,m1,B,h⟩:=q.give _ _ _ _ _ _ C c (-1) s Q z t;have B:∀f w,(callFunc p f).run prog w=.ok (.enter p f) w:=B;have h:Hid (Calls prog p #[Pt N 0,Pt C 0,Im (-1)] w λn w'=>n=.returned (Im (e.does.give c (-1)).2)/\kG w' C (e.does.give c (-1)).1/\Gk w w' C):=h;have S:=q.NH t (-1);obtain⟨v0,Y,y⟩:=z;have c2:=jJ 2 y.jM rfl;clear y s t;unfold Co.one;generalize e.does.give c (-1)=r at *;obtain⟨J,W⟩:=r;simp only at h S⊢;generalize R:c.free=g at *;have i:((J.kC g).choose d).1.code.length<=900000000:=by rw[DR,FK];omega
 generalize A:(J.kC g).choose d=k at *;have M:=jA A;clear A;go_enter func368,ntmps368;go_wp2_with fail;refine h.out.mono ?_;rintro e1 w1 ⟨rfl,⟨X,K,j⟩,G⟩;have O:=jJ 2 j.jM rfl;have P:=qV j.jM;have m:Hid (Calls prog 364 #[Pt C 0,Im d] (w1.setCell (Ad C 2) (Im g)) λe w'=>e=.returned (Im k.2)/\kG w' C k.1/\Gk (w1.setCell (Ad C 2) (Im g)) w' C):=by
  have:=NU ⟨X,K,j.kC g⟩ d;rw[M.out]at this;exact this
 have D:Hid (Gk w (w1.setCell (Ad C 2) (Im g)) C):=G.trans (Gk.free _ _ _);clear j G h;obtain⟨k1,U⟩:=k;simp only at m i⊢;go_wp2_with fail;refine m.out.mono ?_;rintro e2 w2 ⟨rfl,E,H⟩;have x:=jA (Bf E o U W i);have V:=jA (D.out.trans H);clear E H m D O P;go_wp2_with fail;refine x.out.mono ?_;rintro e3 w3 ⟨rfl,F,I⟩;have L:=jA (jd F (V.out.trans I));clear F I x;go_wp2_with fail;go_ret;exact⟨rfl,L.out⟩
theorem aqs(f:kF e)(o d:Int):(c.one o d e.does).1.jy=c.jy:=by
 unfold Co.one;simp only[I8,JX,SS,f.jy]
theorem aqn(g:kF e)(o d:Int)(h:e.jw<=1000000):((c.one o d e.does).1.code.length:Int)<=c.code.length+200 * e.jw+50+21:=by
 unfold Co.one;simp only;have f:=oN (((e.does.give c (-1)).1.kC c.free).choose d).1 o [(((e.does.give c (-1)).1.kC c.free).choose d).2,(e.does.give c (-1)).2];rw[DR,FK]at f;have i:=g.len c (-1) h;simp only[aF,bg]at f;omega
theorem acX(j:kF l)(B:kF r){m s:Nat}{v:jm}(I:l.here l.at' w lo m u)(J:r.here r.at' w s hi v)(hm:m<=C)(Q:hi<=C)(R:kG w C c)(g:Room c (l.jw+r.jw+1))(o d:Int):
 Calls prog 361 #[Pt C 0,.int .u8 o,Im d,u,v] w λq w'=>q=.returned (Im (c.two o d l.does r.does).2)/\kG w' C (c.two o d l.does r.does).1/\Gk w w' C:=by
 have lc:=j.ok.jw;have rc:=B.ok.jw;obtain⟨T1,b1,rfl,_⟩:=j.ok.head _ _ _ _ _ I;obtain⟨T2,O,rfl,_⟩:=B.ok.head _ _ _ _ _ J;obtain⟨F,m1,V,n⟩:=j.give _ _ _ _ _ _ C c (-1) I hm R (g.less (by omega));have V:∀f w,(callFunc F f).run prog w=.ok (.enter F f) w:=V;have n:Hid (Calls prog F #[Pt b1 0,Pt C 0,Im (-1)] w λq w'=>q=.returned (Im (l.does.give c (-1)).2)/\kG w' C (l.does.give c (-1)).1/\Gk w w' C):=n;have H:=j.len c (-1) (by have:=g.jw;omega);have A:=j.jy c (-1);have h:Hid (kF r/\r.here r.at' w s hi (.iface T2 (Pt O 0))/\Room (l.does.give c (-1)).1 r.jw):=⟨B,J,⟨by have:=g.jw;omega,by have:=g.code;omega,by have:=g.jy;rw[A];omega⟩⟩;have t:=B.NH h.out.2.2 (-1);obtain⟨v0,Lc,P⟩:=R;have c2:=jJ 2 P.jM rfl;clear P I J g H A B j;unfold Co.two;generalize l.does.give c (-1)=x at *;obtain⟨xc,xs⟩:=x;simp only at n h t⊢;generalize U:r.does.give xc (-1)=y at *;have HY:=jA U;clear U;obtain⟨M,ys⟩:=y;simp only at t⊢;generalize aa:c.free=i at *;have z:((M.kC i).choose d).1.code.length<=900000000:=by rw[DR,FK];omega
 generalize S:(M.kC i).choose d=k at *;have MC:=jA S;clear S;go_enter func361,ntmps361;go_wp2_with fail;refine n.out.mono ?_;rintro e1 w1 ⟨rfl,Y,L⟩;obtain⟨G,m2,qC,p⟩:=h.out.1.give _ _ _ _ _ _ C xc (-1) ((h.out.1.ok.law _).gk h.out.2.1 L Q) Q Y h.out.2.2;have qC:∀f w,(callFunc G f).run prog w=.ok (.enter G f) w:=qC;rw[HY.out]at p;have p:Hid (Calls prog G #[Pt O 0,Pt C 0,Im (-1)] w1 λq w'=>q=.returned (Im ys)/\kG w' C M/\Gk w1 w' C):=p;have W:=jA L;clear Y L n;go_wp2_with fail;refine p.out.mono ?_;rintro e2 w2 ⟨rfl,⟨v2,K,D⟩,q2⟩;have d2:=jJ 2 D.jM rfl;have fz:=qV D.jM;have E:Hid (Calls prog 364 #[Pt C 0,Im d] (w2.setCell (Ad C 2) (Im i)) λe w'=>e=.returned (Im k.2)/\kG w' C k.1/\Gk (w2.setCell (Ad C 2) (Im i)) w' C):=by
  have:=NU ⟨v2,K,D.kC i⟩ d;rw[MC.out]at this;exact this
 have X:Hid (Gk w (w2.setCell (Ad C 2) (Im i)) C):=(W.out.trans q2).trans (Gk.free _ _ _);clear D q2 p W;obtain⟨k1,k2⟩:=k;simp only at E z⊢;go_wp2_with fail;refine E.out.mono ?_;rintro e3 w3 ⟨rfl,Z,q3⟩;have N:=jA (QH Z o k2 xs ys z);have qE:=jA (X.out.trans q3);clear Z q3 E X d2 fz;go_wp2_with fail;refine N.out.mono ?_;rintro e4 w4 ⟨rfl,p4,q4⟩;have HF:=jA (jd p4 (qE.out.trans q4));clear p4 q4 N;go_wp2_with fail;go_ret;exact⟨rfl,HF.out⟩
theorem aic(f:kF l)(g:kF r)(o d:Int):(c.two o d l.does r.does).1.jy=c.jy:=by
 unfold Co.two;simp only[I8,JX,SS,f.jy,g.jy]
theorem aib(i:kF l)(j:kF r)(o d:Int)(h:l.jw<=1000000)(f:r.jw<=1000000):((c.two o d l.does r.does).1.code.length:Int)<=c.code.length+200 * (l.jw+r.jw)+100+31:=by
 unfold Co.two;simp only;have g:=oN (((r.does.give (l.does.give c (-1)).1 (-1)).1.kC c.free).choose d).1 o [(((r.does.give (l.does.give c (-1)).1 (-1)).1.kC c.free).choose d).2,(l.does.give c (-1)).2,(r.does.give (l.does.give c (-1)).1 (-1)).2];rw[DR,FK]at g;have k:=i.len c (-1) h;have m:=j.len (l.does.give c (-1)).1 (-1) f;simp only[aF,bg]at g;omega
theorem yU{k:Int}(g:0<=k)(i:k<=1000001)(h:jS [k]<=1000000):jS [k]=1+k:=by
 have d:=(xZ [k] (by simp;omega)).1;unfold jS at h⊢;have f:=FP (a:=1) d h;rw[f,Yv (by omega)]
theorem Ap{k m:Int}(i:0<=k)(j:k<=1000001)(d:0<=m)(n:m<=1000001)(h:jS [k,m]<=1000000):jS [k,m]=1+(k+m):=by
 have f:=(xZ [k,m] (by simp;omega)).1;unfold jS at h⊢;have g:=FP (a:=1) f h;rw[g,FP d (by omega)]
theorem Ri{T' T:jo}{at' kind k:Int}{mk:List jm->List jm}{dn:Dn}(o:Int)(f:FuncId)(h:kF e)(I:lQ T')(A:0<=k/\k<=1000001)(p:k<=1000000->e.jw+1<=k)(y:∀c d,dn.give c d=c.one o d e.does)
 (L:∀b w,(method 576 T' (Pt b 0) "helm/lang.give").run prog w=.ok (f,Pt b 0) w)(z:Enters f)
 (K:∀(a:Int)(b C:Nat)(w:jk)(j:jo)(q:Nat)(d s:Int)(P:jk->Prop),w.heap[b]? =some (.cells (Im a::Im k::Im kind::mk [.iface j (Pt q 0)]).toArray T)->
   (∀n,Calls prog 368 #[Pt C 0,.int .u8 o,Im d,.iface j (Pt q 0)] (w.drewN n) λi w'=>i=.returned (Im s)/\P w')->
   Calls prog f #[Pt b 0,Pt C 0,Im d] w λi w'=>i=.returned (Im s)/\P w'):
 kF (vF T' T at' k kind (oD (e.here e.at')) mk dn):=by
 have O:=h.ok.jw;refine⟨KW I (qW (h.ok.law _)) A,λc d=>?_,λc d m=>?_,?_⟩
 .show(dn.give c d).1.jy=c.jy;rw[y];exact aqs h o d
 .show((dn.give c d).1.code.length:Int)<=c.code.length+200 * k+50;have m:=m;have G:=p m;rw[y];have H:=aqn (c:=c) h o d (by omega);omega
 rintro a w lo hi j b C c d ⟨N,S,M,G,H,⟨u,rfl,B⟩,J⟩ Q x t;cases M;obtain⟨j,q,rfl,_⟩:=h.ok.head _ _ _ _ _ B;refine⟨f,L b,z,?_⟩;have m:=t.jw;have R:=p m;have t:Room c k:=t;show Calls prog f #[Pt b 0,Pt C 0,Im d] w λi w'=>i=.returned (Im (dn.give c d).2)/\kG w' C (dn.give c d).1/\Gk w w' C;rw[y];refine K a b C w j q d _ (λw'=>kG w' C (c.one o d e.does).1/\Gk w w' C) J (λn=>?_);have g:=lu w n;refine(al0 h ((h.ok.law _).gk B (Gk.grown g x.lt) (by omega)) (by omega) (x.grow g) (t.less (by omega)) o d).mono ?_;rintro i w' ⟨D,E,F⟩;exact⟨D,E,(Gk.grown g x.lt).trans F⟩
theorem WJ{T' T:jo}{at' kind:Int}{mk:List jm->List jm}{dn:Dn}(d:kF e)(f:Jy (rH T' T at' (jS [e.jw]) kind (oD (e.here e.at')) mk dn))(h:0<=jS [e.jw]/\jS [e.jw]<=1000001->(jS [e.jw]<=1000000->e.jw+1<=jS [e.jw])->kF (vF T' T at' (jS [e.jw]) kind (oD (e.here e.at')) mk dn)):kF (rH T' T at' (jS [e.jw]) kind (oD (e.here e.at')) mk dn):=
 (h (qx d.ok.jw) (λg=>by rw[yU d.ok.jw.1 d.ok.jw.2 g];omega)).of f (λ_ _ _ _ _ h=>KZ (Rh (d.ok.law _)) h) rfl rfl
theorem ad1(q:kF e)(o:Int)(k:Int)(g:0<=k/\k<=1000001)(h:k<=1000000->e.jw+1<=k)(dn:Dn)(p:∀c d,dn.give c d=c.one 27 d e.does):kF (vF 395 397 o k 2 (oD (e.here e.at')) (λt=>t) dn):=by
 refine Ri 27 383 q (by simp[lQ]) g h p (λb w=>by kernel_rfl) (λi w=>by kernel_rfl) ?_;intro a b C w x y d s P j f;have z:=jJ 3 j rfl;have f:=jA (f 0);clear j;go_enter func383,ntmps383;go_wp2_with fail;refine f.out.mono ?_;rintro A w1 ⟨rfl,m⟩;have n:Hid (P w1):=m;clear m f;go_wp2_with fail;go_ret;exact⟨rfl,n.out⟩
theorem ad2(d:kF e)(f:Int):kF (yP f e):=WJ d (wE (by simp[lQ]) (qW (d.ok.law _)) (qx d.ok.jw)).base λg h=>ad1 d f _ g h (adZ e) λ_ _=>rfl
theorem afu(x:kF e)(z kind:Int)(d:ji)(k:Int)(m:0<=k/\k<=1000001)(n:k<=1000000->e.jw+1<=k)(dn:Dn)(t:∀c f,dn.give c f=c.one (if d.data.toList==[45]then 8 else 9) f e.does):kF (vF 379 381 z k kind (oD (e.here e.at')) (λF=>.string d::F) dn):=by
 cases i:(d.data.toList==[45])with
 |true=>
  have q:(d.toList==[45])=true:=by rw[aZ];exact i
  refine Ri 8 366 x (by simp[lQ]) m n (λ_ _=>by rw[t,i];rfl) (λb w=>by kernel_rfl) (λj w=>by kernel_rfl) ?_;intro a b C w y A f s P h g;have B:=jJ 3 h rfl;have D:=jJ 4 h rfl;have g:=jA (g 0);clear h i;go_enter func366,ntmps366;go_wp2_with fail;refine g.out.mono ?_;rintro E w1 ⟨rfl,o⟩;have p:Hid (P w1):=o;clear o g;go_wp2_with fail;go_ret;exact⟨rfl,p.out⟩
 |false=>
  have q:(d.toList==[45])=false:=by rw[aZ];exact i
  refine Ri 9 366 x (by simp[lQ]) m n (λ_ _=>by rw[t,i];rfl) (λb w=>by kernel_rfl) (λj w=>by kernel_rfl) ?_;intro a b C w y A f s P h g;have B:=jJ 3 h rfl;have D:=jJ 4 h rfl;have g:=jA (g 0);clear h i;go_enter func366,ntmps366;go_wp2_with fail;refine g.out.mono ?_;rintro E w1 ⟨rfl,o⟩;have p:Hid (P w1):=o;clear o g;go_wp2_with fail;go_ret;exact⟨rfl,p.out⟩
theorem Xr(f:kF e)(g kind:Int)(d:ji):kF (sG g kind d e):=WJ f (wE (by simp[lQ]) (qW (f.ok.law _)) (qx f.ok.jw)).base λh i=>afu f g kind d _ h i (aft kind d e) λ_ _=>rfl
theorem aga(E:kF e)(B kind f:Int)(t:Wd)(k:Int)(j:0<=k/\k<=1000001)(m:k<=1000000->e.jw+1<=k)(dn:Dn)(D:∀c d,dn.give c d=c.one (pU t.text.data.toList) d e.does):kF (vF 383 385 B k kind (oD (e.here e.at')) (λF=>Im f::F++[.string t.text,Im t.at']) dn):=by
 obtain⟨p,M⟩:=t;refine Ri (pU p.data.toList) 370 E (by simp[lQ]) j m D (λb w=>by kernel_rfl) (λq w=>by kernel_rfl) ?_;intro a b C w G H d s P i h;have I:=jJ 4 i rfl;have J:=jJ 5 i rfl;have z:=jA (λx=>arl p x);have h:=jA h;clear i;generalize pU p.data.toList=o at *;go_enter func370,ntmps370;go_wp2_with fail;refine nO 12 (by kernel_rfl) (by kernel_rfl) ?_;simp only[aC,aO,aG,aQ];repeat (go_big_quiet_step ((go_at_call 372;exact dN (z.out _))))
 refine bF ?_;intro _ n;obtain⟨L,g⟩:=n;subst g;go_wp2_with fail;refine(h.out _).mono ?_;rintro K w1 ⟨rfl,y⟩;have A:Hid (P w1):=y;clear y h;go_wp2_with fail;go_ret;exact⟨rfl,A.out⟩
theorem agc(f:kF e)(g kind d:Int)(t:Wd):kF (oQ g kind d e t):=WJ f (wE (by simp[lQ]) (qW (f.ok.law _)) (qx f.ok.jw)).base λh i=>aga f g kind d t _ h i (af9 kind d e t) λ_ _=>rfl
theorem aeb{T' T:jo}{at' kind k:Int}{mk:List jm->List jm}{dn:Dn}(o:Int)(q:Bool)(f:FuncId)(i:kF l)(j:kF r)(Q:lQ T')(J:0<=k/\k<=1000001)(A:k<=1000000->l.jw+r.jw+1<=k)(H:∀c d,dn.give c d=if q then c.two o d r.does l.does else c.two o d l.does r.does)
 (U:∀b w,(method 576 T' (Pt b 0) "helm/lang.give").run prog w=.ok (f,Pt b 0) w)(I:Enters f)
 (S:∀(a:Int)(b C:Nat)(w:jk)(p t:jo)(x y:Nat)(d s:Int)(P:jk->Prop),w.heap[b]? =some (.cells (Im a::Im k::Im kind::mk [.iface p (Pt x 0),.iface t (Pt y 0)]).toArray T)->
   (∀n,Calls prog 361 (if q then #[Pt C 0,.int .u8 o,Im d,.iface t (Pt y 0),.iface p (Pt x 0)]else #[Pt C 0,.int .u8 o,Im d,.iface p (Pt x 0),.iface t (Pt y 0)]) (w.drewN n) λm w'=>m=.returned (Im s)/\P w')->
   Calls prog f #[Pt b 0,Pt C 0,Im d] w λm w'=>m=.returned (Im s)/\P w'):
 kF (vF T' T at' k kind (Bo (l.here l.at') (r.here r.at')) mk dn):=by
 have Z:=i.ok.jw;have rc:=j.ok.jw;refine⟨KW Q (Rk (i.ok.law _) (j.ok.law _)) J,λc d=>?_,λc d z=>?_,?_⟩
 .show(dn.give c d).1.jy=c.jy;rw[H];cases q
  .exact aic i j o d
  .exact aic j i o d
 .show((dn.give c d).1.code.length:Int)<=c.code.length+200 * k+50;have z:=z;have O:=A z;rw[H];cases q
  .have K:=aib (c:=c) i j o d (by omega) (by omega);simp only[aH,cZ];omega
  .have K:=aib (c:=c) j i o d (by omega) (by omega);simp only[dM];omega
 rintro a w lo hi p b C c d ⟨W,us,V,O,K,⟨u,v,rfl,L,B⟩,R⟩ X G h;cases V;obtain⟨p,x,rfl,_⟩:=i.ok.head _ _ _ _ _ L;obtain⟨t,y,rfl,_⟩:=j.ok.head _ _ _ _ _ B;refine⟨f,U b,I,?_⟩;have z:=h.jw;have Y:=A z;have h:Room c k:=h;show Calls prog f #[Pt b 0,Pt C 0,Im d] w λm w'=>m=.returned (Im (dn.give c d).2)/\kG w' C (dn.give c d).1/\Gk w w' C;rw[H];refine S a b C w p t x y d _ (λw'=>kG w' C (if q then c.two o d r.does l.does else c.two o d l.does r.does).1/\Gk w w' C) R (λn=>?_);have g:=lu w n;have gk:=Gk.grown g G.lt;have M:=(i.ok.law _).gk L gk (by omega);have N:=(j.ok.law _).gk B gk (by omega);cases q
 .refine(acX i j M N (by omega) (by omega) (G.grow g) (h.less (by omega)) o d).mono ?_;rintro m w' ⟨D,E,F⟩;exact⟨D,E,gk.trans F⟩
 .refine(acX j i N M (by omega) (by omega) (G.grow g) (h.less (by omega)) o d).mono ?_;rintro m w' ⟨D,E,F⟩;exact⟨D,E,gk.trans F⟩
theorem aec{T' T:jo}{at' kind:Int}{mk:List jm->List jm}{dn:Dn}(d:kF l)(f:kF r)(g:Jy (rH T' T at' (jS [l.jw,r.jw]) kind (yC (l.here l.at') (r.here r.at')) mk dn))(h:0<=jS [l.jw,r.jw]/\jS [l.jw,r.jw]<=1000001->(jS [l.jw,r.jw]<=1000000->l.jw+r.jw+1<=jS [l.jw,r.jw])->kF (vF T' T at' (jS [l.jw,r.jw]) kind (Bo (l.here l.at') (r.here r.at')) mk dn)):kF (rH T' T at' (jS [l.jw,r.jw]) kind (yC (l.here l.at') (r.here r.at')) mk dn):=
 (h (rO d.ok.jw f.ok.jw) (λi=>by rw[Ap d.ok.jw.1 d.ok.jw.2 f.ok.jw.1 f.ok.jw.2 i];omega)).of g (λ_ _ _ _ _ h=>KZ (ad9 (d.ok.law _) (f.ok.law _)) h) rfl rfl
theorem afm(x:kF l)(y:kF r)(q:Int)(k:Int)(i:0<=k/\k<=1000001)(j:k<=1000000->l.jw+r.jw+1<=k)(dn:Dn)(t:∀c d,dn.give c d=c.two 35 d l.does r.does):kF (vF 398 400 q k 2 (Bo (l.here l.at') (r.here r.at')) (λz=>z) dn):=by
 refine aeb 35 false 386 x y (by simp[lQ]) i j t (λb w=>by kernel_rfl) (λn w=>by kernel_rfl) ?_;intro a b C w A B D E d s P h g;have F:=jJ 3 h rfl;have G:=jJ 4 h rfl;have g:=jA g;clear h;go_enter func386,ntmps386;go_wp2_with fail;refine nO 10 (by kernel_rfl) (by kernel_rfl) ?_;simp only[aC,aO,aG,aQ];repeat (go_big_quiet_step (fail))
 refine bF ?_;intro _ m;obtain⟨I,f⟩:=m;subst f;go_wp2_with fail;refine(g.out _).mono ?_;rintro H w1 ⟨rfl,o⟩;have p:Hid (P w1):=o;clear o g;go_wp2_with fail;go_ret;exact⟨rfl,p.out⟩
theorem afn(d:kF l)(f:kF r)(g:Int):kF (wG g l r):=aec d f (wE (by simp[lQ]) (wU (d.ok.law _) (f.ok.law _)) (rO d.ok.jw f.ok.jw)).base λh i=>afm d f g _ h i (afl l r) λ_ _=>rfl
def lU(sign:List UInt8):Int×Bool:=if sign==[62]then (15,true)else if sign==[62,61]then (16,true)else (vH sign,false)
theorem ac5{d:ji}{a jw kind:Int}{b:Nat}{u v:jm}(f:w.heap[b]? =some (.cells (Im a::Im jw::Im kind::[.string d,u,v]).toArray 376)):
 Calls prog 358 #[Pt b 0] w λm w'=>m=.returned (.tuple #[.int .u8 (lU d.data.toList).1,if (lU d.data.toList).2 then v else u,if (lU d.data.toList).2 then u else v])/\∃n,w'=w.drewN n:=by
 have p:=jJ 3 f rfl;have q:=jJ 4 f rfl;have s:=jJ 5 f rfl;have k:=jA (λx=>aty d x);clear f;unfold lU;cases g:(d.data.toList==[62])with
 |true=>
  have i:(d.toList==[62])=true:=by rw[aZ];exact g
  clear g;simp only[dM];go_enter func358,ntmps358;go_wp2_with fail;go_quiet (fail);go_wp2_with fail;exact cu (by simp[results,Tryz.results358,go_sem]) rfl ⟨rfl,_,rfl⟩
 |false=>
  have i:(d.toList==[62])=false:=by rw[aZ];exact g
  clear g;simp only[aH,cZ];cases h:(d.data.toList==[62,61])with
  |true=>
   have j:(d.toList==[62,61])=true:=by rw[aZ];exact h
   clear h;simp only[dM];go_enter func358,ntmps358;go_wp2_with fail;go_quiet (fail);go_wp2_with fail;exact cu (by simp[results,Tryz.results358,go_sem]) rfl ⟨rfl,_,rfl⟩
  |false=>
   have j:(d.toList==[62,61])=false:=by rw[aZ];exact h
   clear h;simp only[aH,cZ];generalize vH d.data.toList=o at *;go_enter func358,ntmps358;go_wp2_with fail;go_quiet ((go_at_call 363;exact dN (k.out _)));go_wp2_with fail;exact cu (by simp[results,Tryz.results358,go_sem]) rfl ⟨rfl,_,rfl⟩
theorem ah7(A:kF l)(B:kF r)(y kind:Int)(f:ji)(k:Int)(p:0<=k/\k<=1000001)(q:k<=1000000->l.jw+r.jw+1<=k)(dn:Dn)(z:∀c d,dn.give c d=(YA kind f l r).give c d):kF (vF 374 376 y k kind (Bo (l.here l.at') (r.here r.at')) (λE=>.string f::E) dn):=by
 refine aeb (lU f.data.toList).1 (lU f.data.toList).2 354 A B (by simp[lQ]) p q (λc d=>(z c d).trans ?_) (λb w=>by kernel_rfl) (λt w=>by kernel_rfl) ?_
 .show(if f.data.toList==[62]then c.two 15 d r.does l.does else if f.data.toList==[62,61]then c.two 16 d r.does l.does else c.two (vH f.data.toList) d l.does r.does)=_;unfold lU;split
  .rfl
  .split<;>rfl
 intro a b C w G H I J d s P x g;have h:=jA (ac5 x);clear x;generalize lU f.data.toList=F at *;obtain⟨o,D⟩:=F;simp only at h g;cases D
 .simp only[aH,cZ]at h g;have g:=jA g;go_enter func354,ntmps354;go_wp2_with fail;refine h.out.mono ?_;rintro m w1 ⟨rfl,n,rfl⟩;go_wp2_with fail;refine(g.out _).mono ?_;rintro m w1 ⟨rfl,i⟩;have j:Hid (P w1):=i;clear i g;go_wp2_with fail;go_ret;exact⟨rfl,j.out⟩
 .simp only[dM]at h g;have g:=jA g;go_enter func354,ntmps354;go_wp2_with fail;refine h.out.mono ?_;rintro m w1 ⟨rfl,n,rfl⟩;go_wp2_with fail;refine(g.out _).mono ?_;rintro m w1 ⟨rfl,i⟩;have j:Hid (P w1):=i;clear i g;go_wp2_with fail;go_ret;exact⟨rfl,j.out⟩
theorem ah9(f:kF l)(g:kF r)(h kind:Int)(d:ji):kF (nX h kind d l r):=aec f g (wE (by simp[lQ]) (wU (f.ok.law _) (g.ok.law _)) (rO f.ok.jw g.ok.jw)).base λi j=>ah7 f g h kind d _ i j (YA kind d l r) λ_ _=>rfl
end
end
end Go.Proofs.YthllhabjfchgiaaGreatDoor
