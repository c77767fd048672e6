import Derived.Test.YthllhabjfchgiaaGreatDoorHs42
set_option maxRecDepth 100000
set_option maxHeartbeats 8000000
set_option linter.unusedSimpArgs false
namespace Go.Proofs.YthllhabjfchgiaaGreatDoor
open _root_.Go.Proofs.Tryz
section
open Go.RowKit Hx
attribute [local go_sem ↓] Go.wp_at_zero Go.wp_at_succ
attribute [local go_sem] kN
section
variable {w w' w1 w2 w3 wr W:jk}{lo hi m b H g k:Nat}{u v kv:jm}{T:jo}{c:Co}{l l':List jI}{oH cells:List jm}{s:jI}
theorem Oy(h:l.map (·.does)=l'.map (·.does)):kW l=kW l':=by
 funext c
 have e:∀(l:List jI)(c:Co),l.foldl (λc s=>s.does.lay c) c=(l.map (·.does)).foldl (λc d=>d.lay c) c:=λl c=>by rw[List.foldl_map]
 unfold kW;rw[e,e,h]
theorem Oz(h:l.map (·.does)=l'.map (·.does)):l.length=l'.length:=by
 have:=congrArg List.length h;simpa using this
theorem aeg(h:l.map (·.does)=l'.map (·.does)):uM l=uM l':=by
 have e:∀l:List jI,uM l=((l.map (·.does)).getLast?.map (·.fs.ends)).getD false:=λl=>by
  unfold uM;rw[List.getLast?_map];cases l.getLast?<;>rfl
 rw[e,e,h]
theorem ahP:∀(l:List jI)(a:Int),(∀s∈l,1<=s.jw)->0<=a->a+lS l<=1000000->l.foldl (λa e=>kZ [a,e.jw]) a=a+lS l
 |[],a,_,_,_=>by simp[lS]
 |s::l,a,h,ha,hk=>by
  have d:∀x∈l,1<=x.jw:=λx j=>h x (aI _ j);have o:=h s (aW ..);have p:=CO d;have f:lS (s::l)=s.jw+lS l:=by simp[lS]
  rw[f]at hk⊢;rw[bP];have i:kZ [a,s.jw]=a+s.jw:=by
   unfold kZ;simp only[bP,eF];omega
  rw[i,ahP l _ d (by omega) (by omega)];omega
def uT(l:List jI)(w:jk)(lo m H hi:Nat)(v:jm):Prop:=
 ∃l':List jI,tV l'/\l'.map (·.does)=(kS l).map (·.does)/\sumOf l'<=sumOf l/\(∃a c,v=.slice a l'.length c)/\
  ∀w',qA w w' lo m H hi->wW l' w' lo hi v/\Calls prog 339 #[v] w' λen w2=>en=.returned (.bool (uM (kS l)))/\w2=w'
theorem uT.later(h:uT l w lo m H hi v)(p:qA w w' lo m H hi):uT l w' lo m H hi v:=by
 obtain⟨l',d,f,i,o,j⟩:=h;exact⟨l',d,f,i,o,λw2 r=>j w2 (p.trans r)⟩
theorem uT.wide{f r i d:Nat}(h:uT l w lo m H hi v)(o:f<=lo)(B:m<=r)(C:i<=H)(p:hi<=d):uT l w f r i d v:=by
 obtain⟨l',j,t,x,A,z⟩:=h;refine⟨l',j,t,x,A,λw2 D=>?_⟩;obtain⟨E,F⟩:=z w2 (D.less o B C p);exact⟨j.Ai.wide _ _ _ _ _ _ E o p,F⟩
structure BL(l:List jI):Prop where
 wV:tV l
 fold:∀w lo hi v,mY l w lo hi v->hi<=w.heap.size->sumOf l<=1000000->
  Calls prog 45 #[v] w λen w'=>∃v',en=.returned v'/\uT l w' lo hi w.heap.size w'.heap.size v'/\Fk w w' lo hi
theorem Rl(a:Option Addr)(cap:Nat)(w:jk):Calls prog 339 #[.slice a 0 cap] w λd w2=>d=.returned (.bool false)/\w2=w:=by
 go_enter func339,ntmps339;go_wp2_with fail;go_ret;exact⟨rfl,rfl⟩
theorem aoq{g n cap:Nat}{r:Bool}(A:n<=1000000)(z:w.cell? (Ad g n)=some (.iface T (Pt b 0)))(h:EN "helm/lang.ends" T b w r):Calls prog 339 #[.slice (some (Ad g 0)) (n+1) cap] w λi w2=>i=.returned (.bool r)/\w2=w:=by
 obtain⟨j,p,o,f⟩:=h;have o:∀d w,(callFunc j d).run prog w=.ok (.enter j d) w:=o;have f:=jA f;have t:decide ((0:Int)<(n:Int)+1)=true:=dR (by omega);have x:wrap64 ((n:Int)+1-1)=n:=by unfold wrap64;omega
 go_enter func339,ntmps339;go_wp2_with fail;refine f.out.mono ?_;rintro i w1 ⟨rfl,rfl⟩;go_wp2_with fail;go_ret;exact⟨rfl,rfl⟩
structure zX(lo m H:Nat)(wr:jk)(kv:jm)(l':List jI)(cells:List jm):Prop where
 row:wr.ownsRow H 192 1 kv l'.length cells
 each:∀(j:Nat)(s:jI),l'[j]? =some s->∃T b,cells[j]? =some (.iface T (Pt b 0))/\zW lo m H wr kv.ownBlock λw lo hi=>s.here w lo hi (.iface T (Pt b 0))/\EN "helm/lang.ends" T b w s.does.fs.ends
 all:∀s∈l',qh s
theorem zX.nil(lo m H:Nat)(w:jk):zX lo m H w (Nl) [] []:=⟨fK _ _ _ _,λj b d=>by simp at d,λb d=>by simp at d⟩
theorem zX.pI{i:Nat}(h:zX lo m H w kv l' cells)(x:m<=i)(z:w.heap.size<=w'.heap.size)(r:∀j,lo<=j->j<m->w'.heap[j]? =w.heap[j]?)(d:∀j,H<=j->j<w.heap.size->w'.heap[j]? =w.heap[j]?):zX lo i H w' kv l' cells:=by
 refine⟨afS h.row λg f=>d g (h.row.lt g f).1 (h.row.lt g f).2,λj b t=>?_,h.all⟩;obtain⟨T,b,o,p⟩:=h.each j b t;exact⟨T,b,o,p.later x z r (λk A B _=>d k A B) (jf rfl)⟩
theorem zX.add{i cap z:Nat}(h:zX lo m H w kv l' cells)(r:w.grownBy w' kv.ownBlock)(R:H<=w.heap.size)(M:m<=H)(o:w'.ownsRow H 192 1 (.slice (some (Ad i 0)) (l'.length+1) cap) (l'.length+1) (cells++[.iface T (Pt b 0)]))(p:kv.ownBlock=some i\/i=z)(S:w.heap.size<=z)
 (K:qh s)(L:zW lo m H w kv.ownBlock λw lo hi=>s.here w lo hi (.iface T (Pt b 0))/\EN "helm/lang.ends" T b w s.does.fs.ends):zX lo m H w' (.slice (some (Ad i 0)) (l'.length+1) cap) (l'++[s]) (cells++[.iface T (Pt b 0)]):=by
 have J:cells.length=l'.length:=by have:=h.row.1;omega
 have A:∀{Q:jk->Nat->Nat->Prop},zW lo m H w kv.ownBlock Q->zW lo m H w' (Value.slice (some (Ad i 0)) (l'.length+1) cap).ownBlock Q:=λN=>by
  refine N.later (aj _) r.size (λk O D=>r.block k (by omega) λe=>?_) (λk O D P=>r.block k D P) ?_
  .have:=(h.row.lt k e.symm).1;omega
  .rcases p with C|C
   .exact jf (by rw[C];rfl)
   .exact je ⟨i,rfl,by omega⟩
 refine⟨by rw[aA];exact o,λj d f=>?_,λd f=>?_⟩
 .rcases dG j l'.length with t|t
  .rw[aT t]at f;obtain⟨E,F,G,I⟩:=h.each j d f;exact⟨E,F,by rw[aT (by omega)];exact G,A I⟩
  .rw[bW t]at f;have x:j-l'.length=0:=by
    rcases gJ (j-l'.length)with B|B
    .exact B
    .rw[bV (by simp;omega)]at f;cases f
   rw[x]at f;simp only[dw,bJ]at f;subst f;refine⟨T,b,?_,A L⟩;rw[bW (by omega),show j-cells.length=0 by omega];rfl
 .rcases List.mem_append.1 f with f|f
  .exact h.all d f
  .rw[cO.1 f];exact K
theorem zX.done(h:zX lo m H wr kv l' cells)(A:∀s∈l,1<=s.jw)(hm:m<=hi)(aa:lo<=H)(F:l'.map (·.does)=(kS l).map (·.does))(hc:lS l'<=lS l)(Y:sumOf l<=1000000)(hH:H<=wr.heap.size):uT l wr lo hi H wr.heap.size kv:=by
 have B:sumOf l=lS l:=Ia A Y;have h2:sumOf l'=lS l':=by
  have:=ahP l' 0 (λs A=>(h.all s A).pos) (aV 0) (by omega);unfold sumOf;omega
 obtain⟨N,O,p⟩:=XD h.row;refine⟨l',I9 h.all,F,by omega,⟨N,O,p⟩,λw' D=>?_⟩;cases x:N with
 |none=>
  subst p x;rcases h.row.2 with⟨o,S⟩|⟨_,_,_,o,_⟩
  .have J:=dW S;refine⟨jf ⟨J,o⟩,?_⟩;rw[o,<-aeg F,J];exact Rl none 0 w'
  .cases o
 |some ad=>
  subst p x;have i:=h.row;obtain⟨r,E⟩:∃r,ad=(Ad r 0):=by
   rcases i.2 with⟨B,_⟩|⟨U,_,_,B,_⟩
   .cases B
   .cases B;exact⟨U,rfl⟩
  subst E;obtain⟨C,Q,R,I⟩:=afQ i;have z:=(i.lt r rfl).2;have t:=(D r (je ⟨Q,z⟩)).trans R;refine⟨je ⟨r,O,C,rfl,by omega,z,t,λk d K=>?_⟩,?_⟩
  .obtain⟨T,b,o,l1,m1,P,y1,L,k2,k3,M,k5,G⟩:=h.each k d K;refine⟨_,I _ _ o,?_⟩;exact(h.all d (bT K)).ok.law.wide _ _ _ _ _ _ (G w' λj X=>D j (by omega)).1 L M
  .rw[<-aeg F];cases hn:l'.length with
   |zero=>
    rw[dW hn];exact Rl _ _ w'
   |succ n=>
    have f:l'[n]? =some (l'[n]'(by omega)):=bU (by omega);obtain⟨T,b,o,l1,m1,P,y1,L,k2,k3,M,k5,G⟩:=h.each n _ f;have V:uM l'=(l'[n]'(by omega)).does.fs.ends:=by
     unfold uM;rw[List.getLast?_eq_getElem?,show l'.length-1=n by omega,f]
    rw[V];have Z:=CO λs A=>(h.all s A).pos;exact aoq (by omega) ((jG t).trans (I _ _ o)) (G w' λj X=>D j (by omega)).2
structure Gm(l:List jI)(g lo hi:Nat)(oH:List jm)(w wr:jk)(k m:Nat):Prop where
 rest:tJ g (l.drop k) wr m hi (oH.drop k)
 row:wr.heap[g]? =w.heap[g]?
 fk:Fk w wr lo hi
 m1:lo<=m
 m2:m<=hi
theorem Gm.oD(h:Gm l g lo hi oH w wr k m)(J:∀s∈l,Lawful s.here)(i:l[k]? =some s)(P:g<w.heap.size)(O:hi<=w.heap.size):
 ∃q d u,oH[k]? =some u/\m<=q/\q<=d/\d<=hi/\s.here wr q d u/\∀o,Fk wr o q d->Gm l g lo hi oH w o (k+1) d:=by
 have f:k<l.length:=by
  rcases dG k l.length with r|r
  .exact r
  .rw[bV r]at i;cases i
 have t:l[k]=s:=by
  rw[bU f]at i;exact fZ i
 have C:=h.rest;rw[dA f,t]at C;obtain⟨q,d,u,A,B,D,E,p,N,F,G⟩:=C;have Q:=h.fk.size;have L:oH[k]? =some u:=by
  have:=congrArg (λl=>l[0]?) B;simpa using this
 have z:oH.drop (k+1)=A:=by
  have:=congrArg List.tail B;simpa using this
 have K:=h.m1;refine⟨q,d,u,L,D,E,p,F,λo x=>⟨?_,(x.keep g (by omega) (by omega)).trans h.row,?_,by omega,p⟩⟩
 .rw[z];exact LK (λc I=>J c (gU I)) G λj M R=>x.keep j (by omega) (je M)
 .exact h.fk.trans (x.wide (by omega) p)
theorem Gm.grow{row:Option Nat}(h:Gm l g lo hi oH w wr k m)(A:∀s∈l,Lawful s.here)(d:wr.grownBy W row)(f:∀j,row=some j->w.heap.size<=j)(B:hi<=w.heap.size)(z:g<w.heap.size):Gm l g lo hi oH w W k m:=by
 have D:=h.fk.size;have i:∀j,j<w.heap.size->W.heap[j]? =wr.heap[j]? :=λj C=>d.block j (by omega) λe=>by have:=f j e.symm;omega
 have o:=h.m1;have p:=h.m2;exact⟨LK (λc x=>A c (gU x)) h.rest λj r t=>i j (by omega),(i g (by omega)).trans h.row,⟨d.os.trans h.fk.os,d.tape.trans h.fk.tape,d.output.trans h.fk.output,by have:=d.size;omega,λj r t=>(i j r).trans (h.fk.keep j r t)⟩,o,p⟩
theorem anC:(prog.info? 192).map (λi=>(i.zero,i.size,i.bytes))=some (some .nilIface,1,16):=by kernel_rfl
theorem apT(w:jk)(lo m H hi:Nat):uT [] w lo m H hi (Nl):=
 ⟨[],I9 (by simp),rfl,aV _,⟨none,0,rfl⟩,λw' _=>⟨jf ⟨rfl,rfl⟩,Rl none 0 w'⟩⟩
theorem alS(a:Option Addr)(cap:Nat)(w:jk):Calls prog 45 #[.slice a 0 cap] w λd w2=>d=.returned (Nl)/\w2=w:=by
 go_enter func45,ntmps45;go_wp2_with fail;go_loopg [3,8] 1 (λ_ kv i wr=>kv=Nl/\i=Im 0/\wr=w)
 case atStart=>exact⟨rfl,rfl,rfl⟩
 case round=>
  obtain⟨rfl,rfl,rfl⟩:=hrel;go_wp2_with fail;go_ret;exact⟨rfl,rfl⟩
structure L6(l:List jI)(g lo hi:Nat)(oH:List jm)(w wr:jk)(k m:Nat)(kv:jm)(l':List jI)(cells:List jm):Prop where
 kept:zX lo m w.heap.size wr kv l' cells
 rest:Gm l g lo hi oH w wr k m
 does:l'.map (·.does)++(kS (l.drop k)).map (·.does)=(kS l).map (·.does)
 jw:lS l'+lS (l.drop k)<=lS l
 len:l'.length<=k
theorem acd{k:Nat}(f:l[k]? =some s):lS (l.drop k)=s.jw+lS (l.drop (k+1)):=by
 obtain⟨hi,d⟩:=List.getElem?_eq_some_iff.1 f;rw[dA hi,d];simp[lS]
theorem acN{k:Nat}(f:l[k]? =some s):kS (l.drop k)=if s.does.fs.idle then kS (l.drop (k+1))else if s.does.fs.ends then [s.uJ]else s.uJ::kS (l.drop (k+1)):=by
 obtain⟨hi,d⟩:=List.getElem?_eq_some_iff.1 f;rw[dA hi,d]
 rfl
theorem ace(h:∀s∈l,qh s)(k:Nat):0<=lS (l.drop k):=by
 have:=CO (l:=l.drop k) λs d=>(h s (gU d)).pos;omega
theorem Rx(h:∀s∈l,Dx s):BL l:=by
 have D:∀s∈l,qh s:=λs E=>(h s E).wV;refine⟨I9 D,?_⟩;intro w lo hi v hh hH hk;have hl:∀s∈l,Lawful s.here:=λs E=>(D s E).ok.law;have r:∀s∈l,1<=s.jw:=λs E=>(D s E).pos;have ab:lS l<=1000000:=by rw[<-Ia r hk];exact hk
 rcases hh with⟨rfl,rfl⟩|⟨g,t,oH,az,rfl,g1,g2,ag,hg,Q⟩
 .refine(alS none 0 w).mono ?_;rintro en w' ⟨e1,rfl⟩;exact⟨_,e1,apT _ _ _ _ _,Fk.refl _ _ _⟩
 have Y:g<w.heap.size:=by omega
 have ax:l.length<=1000000:=by have:=CO r;omega
 have H0:Hid (L6 l g lo hi oH w w 0 lo (Nl) [] []):=⟨zX.nil _ _ _ _,⟨ag,rfl,Fk.refl _ _ _,aj _,by omega⟩,by simp,by simp[lS],aj _⟩;have Gi:=jA (λ(k:Nat)(u:jm)(hu:oH[k]? =some u)=>(jG hg).trans (Q k u hu));have aa:Hid (∀wr k m kv l' cells,L6 l g lo hi oH w wr k m kv l' cells->(kS (l.drop k)).map (·.does)=[]->uT l wr lo hi w.heap.size wr.heap.size kv/\Fk w wr lo hi):=λwr k m kv l' cells z hd=>by
  have x:=z.does;rw[hd,aX]at x;have h2:=z.jw;have h3:=ace D k;exact⟨z.kept.done r z.rest.m2 (by omega) x (by omega) hk z.rest.fk.size,z.rest.fk⟩
 have HF:=jA h;have HL:=jA hl;have Ue:=jA D;have O:=jA (jd r (jd ab (jd hk hH)));clear ag hg Q h hl D r ab hk;go_enter func45,ntmps45;go_wp2_with fail;go_loopg [3,8] (l.length+1) (λF kv i wr=>Hid (∃(k m:Nat)(l':List jI)(cells:List jm),k+F=l.length+1/\k<=l.length/\i=Im k/\L6 l g lo hi oH w wr k m kv l' cells))
 case atStart=>exact⟨0,lo,[],[],by omega,bD _,rfl,H0.out⟩
 case round=>
  obtain⟨k,m,l',cells,aD,aE,rfl,z⟩:=hrel.out;clear hrel H0;obtain⟨S,U,ao⟩:=XD z.kept.row;subst ao;by_cases ap:k<l.length
  .have d1:decide ((k:Int)<(l.length:Int))=true:=by simp;omega
   have i0:(0:Int)<=(k:Int):=by omega
   have i1:(k:Int)<(l.length:Int):=by omega
   obtain⟨s,E⟩:∃s,l[k]? =some s:=⟨_,bU ap⟩;have hQ:=HF.out s (bT E);obtain⟨q,I,u,hu,q1,q2,q3,q4,q5⟩:=z.rest.oD HL.out E Y O.out.2.2.2;have z0:=Gi.out k u hu;obtain⟨J,K,rfl,aB,l1,l2,_⟩:=hQ.wV.ok.head _ _ _ _ q4;have av:=z.rest.fk.size;have k0:wr.cell? (Ad g k)=some (.iface J (Pt K 0)):=(bQ z.rest.row).trans z0;obtain⟨g',aC⟩:∃g',gk=g'+1:=⟨gk-1,by omega⟩;have au:s.jw<=1000000:=by
    have x:=acf O.out.1 k s E;have h2:=CO (l:=l.take k) λs E=>O.out.1 s (dS E);have h3:=O.out.2.1;omega
   have aq:I<=w.heap.size:=by have:=O.out.2.2.2;omega
   obtain⟨f1,Hl,kM,H1⟩:=hQ.fold wr q I J K q4 (by omega) au;have kM:∀d w,(callFunc f1 d).run prog w=.ok (.enter f1 d) w:=kM;have H1:=jA H1;have B:=jA z;have JE:=jA q5;have HS:=jA E;clear z q4 q5 hQ E hu z0;go_wp2_with fail;refine H1.out.mono ?_;rintro en w2 ⟨rfl,VD,E8⟩;obtain⟨s',Z,L,V,GY⟩:=VD;obtain⟨t1,⟨f2,Xf,qC,N⟩,t3⟩:=GY w2 (qA.refl _ _ _ _ _);have qC:∀d w,(callFunc f2 d).run prog w=.ok (.enter f2 d) w:=qC;have N:=jA N;have s2:=E8.size;have HN:Hid (zX lo I w.heap.size w2 (.slice S l'.length U) l' cells/\Gm l g lo hi oH w w2 (k+1) I/\zW lo I w.heap.size w2 (Value.slice S l'.length U).ownBlock λw lo hi=>s'.here w lo hi (.iface J (Pt K 0))/\EN "helm/lang.ends" J K w s'.does.fs.ends):=by
    have ar:=B.out.rest.m1;refine⟨B.out.kept.pI (by omega) s2 (λj j1 R=>E8.keep j (by have:=B.out.rest.m2;have:=O.out.2.2.2;omega) (jf (by omega))) (λj j1 R=>E8.keep j R (je (by omega))),JE.out _ E8,q,I,wr.heap.size,w2.heap.size,by omega,aj _,av,aj _,λF an=>jf (B.out.kept.row.lt F an).2,λw' hw=>?_⟩;obtain⟨y1,y2,y3⟩:=GY w' hw;exact⟨y1,by rw[L];exact y3⟩
   have HD:=jA (jd Z (jd L V));have Ud:Hid (s.does.fs.idle=true->L6 l g lo hi oH w w2 (k+1) I (.slice S l'.length U) l' cells):=λhi=>by
    refine⟨HN.out.1,HN.out.2.1,?_,?_,by have:=B.out.len;omega⟩
    .have x:=B.out.does;rw[acN HS.out,hi,jh rfl]at x;exact x
    .have x:=B.out.jw;rw[acd HS.out]at x;have:=(Ue.out s (bT HS.out)).pos;omega
   have aG:l'.length<=1000000:=by have:=B.out.len;omega
   have HO:=jA (λo=>HN.out.1.row.alloc o);have G:Hid (s.does.fs.idle=false->∀(o:Obj)(y:jk)(F t:Nat),(w2.alloc o).grownBy y (Value.slice S l'.length U).ownBlock->y.ownsRow w.heap.size 192 1 (.slice (some (Ad F 0)) (l'.length+1) t) (l'.length+1) (cells++[.iface J (Pt K 0)])->((Value.slice S l'.length U).ownBlock=some F\/F=w2.heap.size+1)->
    EN "helm/lang.ends" J K y s.does.fs.ends/\(s.does.fs.ends=false->L6 l g lo hi oH w y (k+1) I (.slice (some (Ad F 0)) (l'.length+1) t) (l'++[s']) (cells++[.iface J (Pt K 0)]))/\
    (s.does.fs.ends=true->uT l y lo hi w.heap.size y.heap.size (.slice (some (Ad F 0)) (l'.length+1) t)/\Fk w y lo hi)):=λhi o y F t p f A=>by
    obtain⟨n1,n2,n3⟩:=HN.out;obtain⟨p1,p2,p3,p4⟩:=O.out;have P:=ah w2 o none;have ar:=B.out.rest.m1;have ad:=n1.pI (aj _) P.size (λj j1 R=>P.block j (by omega) (by simp)) (λj j1 R=>P.block j R (by simp));have hh:=n3.later (own':=(Value.slice S l'.length U).ownBlock) (aj _) P.size (λj j1 R=>P.block j (by omega) (by simp)) (λj j1 R _=>P.block j R (by simp)) (jf rfl);have Xh:=n2.grow HL.out P (λj hj=>by cases hj) p4 Y;have KQ:=Xh.grow HL.out p (λj hj=>(ad.row.lt j hj).1) p4 Y;have hadd:=ad.add p (by rw[oz];omega) aq f A (by rw[oz];omega) Z hh;have am:qA w2 y q I wr.heap.size w2.heap.size:=λj hj=>by
     refine(p.block j (by rw[oz];omega) λe=>?_).trans (P.block j (by omega) (by simp));have x:=B.out.kept.row.lt j e.symm;omega
    have X:kS (l.drop k)=if s.does.fs.ends then [s.uJ]else s.uJ::kS (l.drop (k+1)):=by
     rw[acN HS.out,hi]
     rfl
    have x:=B.out.does;have h2:=B.out.jw;rw[X]at x;rw[acd HS.out]at h2;have Kq:lS (l'++[s'])=lS l'+s.jw:=by simp[lS,V]
    have af:s'.does=s.uJ.does:=L;refine⟨(GY y am).2.2,λhe=>?_,λhe=>?_⟩
    .rw[he]at x;refine⟨hadd,KQ,?_,by omega,by have:=B.out.len;simp only[aA,aF,bg];omega⟩;rw[dF,bY];simp only[dL,iM,fC,af];simpa using x
    .rw[he]at x;have h3:=ace Ue.out (k+1);refine⟨hadd.done p1 KQ.m2 (by have:=KQ.m1;have:=KQ.m2;omega) ?_ (by omega) p3 KQ.fk.size,KQ.fk⟩;rw[dF];simp only[dL,iM,af];simpa using x
   obtain⟨Q9,ac,ai,ak,al⟩:=info_parts anC;clear E8 GY HN HD B JE H1 kM Hl t1 t3 Z L V k0;generalize ay:l'.length=fl at *;cases hT:s.does.fs.idle with
   |true=>
    rw[hT]at N;have xC:=jA (Ud.out hT);clear Ud G HO;go_wp2_with fail;refine N.out.mono ?_;rintro en w4 ⟨rfl,rfl⟩;go_wp2_with fail;go_roundg g'
    case measure=>omega
    case rel=>exact⟨k+1,I,l',cells,by omega,by omega,by go_num,xC.out⟩
   |false=>
    rw[hT]at N;have xC:=jA (G.out hT);clear Ud G;go_wp2_with fail;refine N.out.mono ?_;rintro en w2 ⟨rfl,rfl⟩;cases hE:s.does.fs.ends with
    |false=>
     go_wp2_with (at_builtin;refine wpList_append_lies _ rfl _ _ 105 rfl w.heap.size 192 Q9 .nilIface 1 16 Tryz.underlying105 ac ai ak al rfl (by decide) (.slice S fl U) fl cells rfl (HO.out _) (Ad w2.heap.size 0) 1 1 [.iface J (Pt K 0)] rfl rfl (cell_one_new _ _ _) (by simp[Value.oneCell']) (by decide) (by unfold maxLen;omega) (by omega) (by simp;omega) (w2.heap.size+1) (by simp) ?_;intro F t w5 f p A ae;obtain⟨⟨f3,aw,NQ,H3⟩,M,C⟩:=xC.out _ _ _ _ p f A;rw[hE]at H3;have NQ:∀d w,(callFunc f3 d).run prog w=.ok (.enter f3 d) w:=NQ);have MH:=jA (M hE);clear M C p f A xC HO N qC Xf;refine H3.mono ?_;rintro en w6 ⟨rfl,rfl⟩;go_wp2_with fail;go_roundg g'
     case measure=>omega
     case rel=>exact⟨k+1,I,_,_,by omega,by omega,by go_num,MH.out⟩
    |true=>
     go_wp2_with (at_builtin;refine wpList_append_lies _ rfl _ _ 105 rfl w.heap.size 192 Q9 .nilIface 1 16 Tryz.underlying105 ac ai ak al rfl (by decide) (.slice S fl U) fl cells rfl (HO.out _) (Ad w2.heap.size 0) 1 1 [.iface J (Pt K 0)] rfl rfl (cell_one_new _ _ _) (by simp[Value.oneCell']) (by decide) (by unfold maxLen;omega) (by omega) (by simp;omega) (w2.heap.size+1) (by simp) ?_;intro F t w5 f p A ae;obtain⟨⟨f3,aw,NQ,H3⟩,M,C⟩:=xC.out _ _ _ _ p f A;rw[hE]at H3;have NQ:∀d w,(callFunc f3 d).run prog w=.ok (.enter f3 d) w:=NQ);have MH:=jA (C hE);clear M C p f A xC HO N qC Xf;refine H3.mono ?_;rintro en w6 ⟨rfl,rfl⟩;go_wp2_with fail;go_ret;exact⟨_,rfl,MH.out⟩
  .have d1:decide ((k:Int)<(l.length:Int))=false:=by simp;omega
   have HE:=jA (aa.out _ _ _ _ _ _ z (by rw[List.drop_eq_nil_of_le (by omega)];rfl));clear z Gi HF HL Ue O aa;generalize l'.length=fl at *;go_wp2_with fail;go_ret;exact⟨_,rfl,HE.out⟩
end
section
variable {w w' w1 w2 w3 wr W:jk}{lo hi m b H g k:Nat}{u v kv:jm}{T:jo}{c:Co}{l l' y n:List jI}{oH cells:List jm}{s:jI}{e:Ex}
def ahR(a k:Int)(u0:jm)(y:List jI)(ds:Ds):jI:=wY 339 341 a k (oD (wW y)) (λus=>u0::us++[Nl,.bool true]) ds
theorem auP(j:tV y)(u0:jm)(a:Int){k:Int}(f:1<=k/\k<=1000001)(h:k<=1000000->sumOf y<=k)(ds:Ds)(p:ds.lay=kW y):qh (ahR a k u0 y ds):=by
 have Z:=rP j.ok;refine⟨Jf (by simp[o7]) (qW j.Ai) f,f.1,λc=>Jo ?_,λc t=>?_,?_⟩
 .show(ds.lay c).jy=c.jy;rw[p];exact j.jy c
 .have t:k<=1000000:=t;have J:=h t;show((ds.lay c).code.length:Int)<=c.code.length+200 * k;rw[p];have:=j.len c (by omega);omega
 rintro w lo hi T b C c ⟨R,Y,P,V,X,⟨u,rfl,B⟩,r⟩ O I d;cases P;have d:Room c k:=d;have J:=h d.jw;have x:=d.code;have A:=d.jy;have z:=d.jw;obtain⟨Q,M,i⟩:=G7 B;obtain⟨D,o⟩:∃D,y.length=D:=⟨_,rfl⟩;rw[o]at i;subst i;have S:w.cell? (Ad b 3)=some (.slice Q D M):=jG r;have U:w.cell? (Ad b 5)=some (.bool true):=jG r;have E:=jA (j.lay _ _ _ _ C c B O I ⟨by omega,by omega,by omega⟩);refine⟨337,λw=>by kernel_rfl,λF w=>by kernel_rfl,?_⟩;show Calls prog 337 #[Pt b 0,Pt C 0] w λG w'=>G=.returned (.tuple #[])/\kG w' C (ds.lay c)/\Gk w w' C;rw[p];clear r B I d x A z J o p;go_enter func337,ntmps337;go_wp2_with fail;refine E.out.mono ?_;rintro G w1 ⟨rfl,K,L⟩;have N:=jA (jd K L);clear K L E;go_wp2_with fail;exact cu (v:=.tuple #[]) (by simp[results,Tryz.results337,go_sem]) rfl ⟨rfl,N.out⟩
theorem abX{t p:Option Addr}{f d x r:Nat}(z:w.cell? (Ad b 3)=some (.slice t f x))(A:w.cell? (Ad b 4)=some (.slice p d r)):Calls prog 336 #[Pt b 0] w λo w'=>o=.returned (.bool (decide (f=0)&&decide (d=0)))/\w'=w:=by
 by_cases i:f=0
 .subst i;by_cases h:d=0
  .subst h;go_enter func336,ntmps336;go_wp2_with fail;go_ret;exact⟨rfl,rfl⟩
  .have j:((d:Int)==0)=false:=by rw[beq_eq_false_iff_ne];omega
   rw[dO h];clear h;go_enter func336,ntmps336;go_wp2_with fail;go_ret;exact⟨rfl,rfl⟩
 .have j:((f:Int)==0)=false:=by rw[beq_eq_false_iff_ne];omega
  rw[dO i,gK];clear i;go_enter func336,ntmps336;go_wp2_with fail;go_ret;exact⟨rfl,rfl⟩
theorem abV{z p:Option Addr}{B t A r:Nat}{i x d:Bool}(D:w.cell? (Ad b 3)=some (.slice z B A))(E:w.cell? (Ad b 4)=some (.slice p t r))(F:w.cell? (Ad b 5)=some (.bool d))
 (o:Calls prog 339 #[.slice z B A] w λf w2=>f=.returned (.bool i)/\w2=w)(j:Calls prog 339 #[.slice p t r] w λf w2=>f=.returned (.bool x)/\w2=w):
 Calls prog 334 #[Pt b 0] w λf w'=>f=.returned (.bool (i&&(d||x)))/\w'=w:=by
 have h:=jA o;have C:=jA j;clear o j;cases i with
 |false=>
  go_enter func334,ntmps334;go_wp2_with fail;refine h.out.mono ?_;rintro f w1 ⟨rfl,rfl⟩;go_wp2_with fail;go_ret;exact⟨rfl,rfl⟩
 |true=>
  cases d with
  |true=>
   go_enter func334,ntmps334;go_wp2_with fail;refine h.out.mono ?_;rintro f w1 ⟨rfl,rfl⟩;go_wp2_with fail;go_ret;exact⟨rfl,rfl⟩
  |false=>
   simp only[Bool.true_and,gZ];go_enter func334,ntmps334;go_wp2_with fail;refine h.out.mono ?_;rintro f w1 ⟨rfl,rfl⟩;go_wp2_with fail;refine C.out.mono ?_;rintro f w1 ⟨rfl,rfl⟩;go_wp2_with fail;go_ret;exact⟨rfl,rfl⟩
theorem ahS{a k:Int}{u0 C:jm}{fs:L8}{p:Nat}(z:lo<=b)(G:b<hi)(Q:hi<=W.heap.size)(I:W.heap[b]? =some (.cells ([Im a,Im k,u0,C,Nl,.bool true]:List jm).toArray 341))
 (K:uT y W lo b p W.heap.size C)(j:1<=k/\k<=1000001)(o:k<=1000000->sumOf y<=k)(i:fs={lay:=kW (kS y),idle:=decide ((kS y).length=0),ends:=uM (kS y)}):zO fs k W lo hi p W.heap.size 339 b:=by
 obtain⟨B,E,x,P,⟨N,O,rfl⟩,F⟩:=K;subst i;refine⟨ahR a k u0 B _,auP E u0 a j (λJ=>by have:=o J;omega) {lay:=kW (kS y),fs:={lay:=kW (kS y),idle:=decide ((kS y).length=0),ends:=uM (kS y)}} (Oy x).symm,rfl,rfl,λw' A=>?_⟩;obtain⟨L,M⟩:=F w' (A.less (aj _) (by omega) (aj _) (aj _));have d:=(A b (jf ⟨z,G⟩)).trans I;have r:w'.cell? (Ad b 3)=some (.slice N B.length O):=jG d;have t:w'.cell? (Ad b 4)=some (Nl):=jG d;have D:w'.cell? (Ad b 5)=some (.bool true):=jG d;refine⟨⟨b,_,rfl,z,by omega,⟨_,rfl,L⟩,d⟩,⟨336,λw=>by kernel_rfl,λf w=>by kernel_rfl,?_⟩,334,λw=>by kernel_rfl,λf w=>by kernel_rfl,?_⟩
 .have h:=abX r t;rw[Oz x]at h;simpa using h
 .have h:=abV r t D M (Rl none 0 w');simpa using h
theorem akU{a k E:Int}{G I F:jm}{fs:L8}{f:oK}{j:Nat}(C:lo<=b)(O:b<hi)(hH:hi<=W.heap.size)(P:W.heap[b]? =some (.cells ([Im a,Im k,G,I,F,.bool false]:List jm).toArray 341))
 (Q:mO f E W lo b j W.heap.size G)(U:uT y W lo b j W.heap.size I)(S:uT n W lo b j W.heap.size F)(t:1<=k/\k<=1000001)(x:k<=1000000->1+(E+sumOf y+sumOf n)<=k)
 (p:fs={lay:=λc=>(if 0<(kS n).length then kW (kS n) ((kW (kS y) (((f.give c (-1)).1.kC c.free).lay 2 [(f.give c (-1)).2])).lay 3 [])else kW (kS y) (((f.give c (-1)).1.kC c.free).lay 2 [(f.give c (-1)).2])).lay 0 [],idle:=decide ((kS y).length=0)&&decide ((kS n).length=0),ends:=uM (kS y)&&uM (kS n)}):zO fs k W lo hi j W.heap.size 339 b:=by
 obtain⟨e',T2,b2,_,_,_,rfl,_,_,q3,q4,q5,_,q6⟩:=Q;obtain⟨y',K,B,e3,⟨ya,yc,rfl⟩,L⟩:=U;obtain⟨V,M,r,g3,⟨X,Y,rfl⟩,N⟩:=S;refine⟨_,(abT q3 K M a t (λR=>by have:=x R;omega)).does (ds:={lay:=fs.lay,fs:=fs}) ?_,rfl,rfl,λw' D=>?_⟩
 .subst p;funext c
  simp only[Aa,wY];rw[Oy B,Oy r,Oz r,q4]
 have i:=D.less (lo:=lo) (m:=b) (H:=j) (hi:=W.heap.size) (aj _) (by omega) (aj _) (aj _);obtain⟨Z,q2⟩:=L w' i;obtain⟨r1,r2⟩:=N w' i;have d:=(D b (jf ⟨C,O⟩)).trans P;have z:w'.cell? (Ad b 3)=some (.slice ya y'.length yc):=jG d;have A:w'.cell? (Ad b 4)=some (.slice X V.length Y):=jG d;have J:w'.cell? (Ad b 5)=some (.bool false):=jG d;subst p;refine⟨⟨b,_,rfl,C,by omega,⟨_,_,_,rfl,(q6 w' i).1,Z,r1⟩,d⟩,⟨336,λw=>by kernel_rfl,λo w=>by kernel_rfl,?_⟩,334,λw=>by kernel_rfl,λo w=>by kernel_rfl,?_⟩
 .have h:=abX z A;rw[Oz B,Oz r]at h;exact h
 .have h:=abV z A J q2 r2;simpa using h
end
end
section
open Go.RowKit Hx
attribute [local go_sem ↓] Go.wp_at_zero Go.wp_at_succ
attribute [local go_sem] kN
attribute [local simp] aN
section
variable {w w' w1 w2 w3:jk}{lo hi m q b H:Nat}{u v:jm}{e:Ex}{a:Int}{T:jo}{c:Co}{y n:List jI}
theorem akQ(he:nV e)(hy:BL y)(hn:BL n)(Q:Int):Dx (qo Q e y n):=by
 have ec:=he.lZ.ok.jw;have yc:=rP hy.wV.ok;have nc:=rP hn.wV.ok;refine⟨abU he.lZ hy.wV hn.wV Q,?_⟩;rintro w lo hi T b ⟨b',us,hv,J,L,⟨m,q,u,yv,nv,rfl,aA,aB,VY,hu,af,V3⟩,hb⟩ hH hk;cases hv;have hk:jS [e.jw,sumOf y,sumOf n]<=1000000:=hk;have az:=XF ec.1 ec.2 yc.1 yc.2 nc.1 nc.2 hk;have ac:1<=jS [e.jw,sumOf y,sumOf n]/\jS [e.jw,sumOf y,sumOf n]<=1000001:=⟨yE (by simp;exact⟨ec,yc,nc⟩),(Jj ec yc nc).2⟩;obtain⟨T1,b1,rfl,ax,l1,l2,_⟩:=he.lZ.ok.head _ _ _ _ _ hu;obtain⟨ya,Dq,Om⟩:=G7 (hy.wV.flat af);obtain⟨na,OO,al⟩:=G7 (hn.wV.flat V3);obtain⟨yl,an⟩:∃yl,y.length=yl:=⟨_,rfl⟩;obtain⟨nl,am⟩:∃nl,n.length=nl:=⟨_,rfl⟩;rw[an]at Om;rw[am]at al;clear an am;subst Om al;obtain⟨f1,Hl,kM,H1⟩:=he.fold _ _ _ _ _ _ hu (by omega);have kM:∀I w,(callFunc f1 I).run prog w=.ok (.enter f1 I) w:=kM;have H1:=jA H1;have c2:w.cell? (Ad b 2)=some (.iface T1 (Pt b1 0)):=jG hb;have HB:=jA hb;have HV:=jA (jd af V3);have ap:b<w.heap.size:=by omega
 refine⟨335,λw=>by kernel_rfl,λI w=>by kernel_rfl,?_⟩;clear hu hb af V3;go_enter func335,ntmps335;go_upto_region 1 with fail;refine H1.out.mono ?_;rintro A w1 ⟨v',rfl,V,d⟩;have s1:=d.size;have h:=(d.keep b ap (je (by omega))).trans HB.out;have d2:w1.cell? (Ad b 2)=some (.iface T1 (Pt b1 0)):=jG h;have fz:∀j,w1.frozen? (Ad b j)=false:=λj=>nA h;obtain⟨D,F,ae⟩:=V.form;subst ae;have N:=aK w1 _ 2 _ _ (.iface D (Pt F 0)) h;have Pq:(w1.setCell (Ad b 2) (.iface D (Pt F 0))).heap.size=w1.heap.size:=dI ..;have ah:Fk w (w1.setCell (Ad b 2) (.iface D (Pt F 0))) lo hi:=(d.wide (aj _) (by omega)).trans (Fk.set J L);have M:mO e.does.fd e.jw (w1.setCell (Ad b 2) (.iface D (Pt F 0))) lo m w.heap.size (w1.setCell (Ad b 2) (.iface D (Pt F 0))).heap.size (.iface D (Pt F 0)):=by
  rw[Pq];exact V.later λj hj=>qZ j (by omega)
 have JG:Hid (mY y (w1.setCell (Ad b 2) (.iface D (Pt F 0))) m q (.slice ya yl Dq)/\mY n (w1.setCell (Ad b 2) (.iface D (Pt F 0))) q b (.slice na nl OO)):=⟨hy.wV.law.loc _ _ _ _ _ HV.out.1 λj j1 j2=>(qZ j (by omega)).trans (d.keep j (by omega) (je j1)),hn.wV.law.loc _ _ _ _ _ HV.out.2 λj j1 j2=>(qZ j (by omega)).trans (d.keep j (by omega) (je (by omega)))⟩;have JF:=jA (jd ah (jd N M));clear V d h N ah M H1 HB HV kM Hl;go_upto_region 1 with fail;generalize ao:w1.setCell (Ad b 2) (.iface D (Pt F 0))=E at *;clear ao d2 fz c2;have sW:w.heap.size<=E.heap.size:=by omega
 have x:E.cell? (Ad b 3)=some (.slice ya yl Dq):=jG JF.out.2.1;have z:E.cell? (Ad b 4)=some (.slice na nl OO):=jG JF.out.2.1;have EG:Hid (∀R,E.drew.grownBy R none->Calls prog 45 #[.slice ya yl Dq] R λA w2=>∃r B x,A=.returned (.slice r B x)/\Hid (uT y w2 m q E.heap.size w2.heap.size (.slice r B x)/\Fk E w2 m q)):=λR P=>by
  have g0:E.grownBy R none:=(DX (aN E none)).trans P;have sy:=g0.size;refine(hy.fold R m q _ (hy.wV.law.loc _ _ _ _ _ JG.out.1 λk _ k2=>g0.block k (by omega) (by simp)) (by omega) (by omega)).mono ?_;rintro A w2 ⟨v',rfl,V,d⟩;obtain⟨_,_,_,_,⟨r,x,ae⟩,_⟩:=id V;subst ae;exact⟨r,_,x,rfl,V.wide (aj _) (aj _) sy (aj _),(Fk.grown g0).trans d⟩
 have U:Hid (∀w2 R,Fk E w2 m q->w2.grownBy R none->Calls prog 45 #[.slice na nl OO] R λA w3=>∃o p z,A=.returned (.slice o p z)/\Hid (uT n w3 q b w2.heap.size w3.heap.size (.slice o p z)/\Fk w2 w3 q b)):=λw2 R Y P=>by
  have sy:=P.size;have s2:=Y.size;refine(hn.fold R q b _ (hn.wV.law.loc _ _ _ _ _ JG.out.2 λk k1 k2=>(P.block k (by omega) (by simp)).trans (Y.keep k (by omega) (by omega))) (by omega) (by omega)).mono ?_;rintro A w3 ⟨v',rfl,V,d⟩;obtain⟨_,_,_,_,⟨o,z,aq⟩,_⟩:=id V;subst aq;exact⟨o,_,z,rfl,V.wide (aj _) (aj _) sy (aj _),(Fk.grown P).trans d⟩
 have HC:Hid (∀w2,Fk E w2 m q->w2.cell? (Ad b 4)=some (.slice na nl OO)/\w2.cell? (Ad b 3)=some (.slice ya yl Dq)/\∀j,w2.frozen? (Ad b j)=false):=λw2 hk=>by
  have h:=(hk.keep b (by omega) (by omega)).trans JF.out.2.1;exact⟨jG h,jG h,λj=>nA h⟩
 have S:Hid (∀w2 w3,Fk E w2 m q->Fk w2 w3 q b->w3.cell? (Ad b 4)=some (.slice na nl OO)/\w3.cell? (Ad b 3)=some (.slice ya yl Dq)/\∀j,w3.frozen? (Ad b j)=false):=λw2 w3 hk Y=>by
  have s1:=hk.size;have h:=(Y.keep b (by omega) (by omega)).trans ((hk.keep b (by omega) (by omega)).trans JF.out.2.1);exact⟨jG h,jG h,λj=>nA h⟩
 have ar:b<E.heap.size:=by omega
 go_cut [] (λwx=>Hid (∃(w2 w3:jk)(r:Option Addr)(B x:Nat)(o:Option Addr)(p z:Nat),(uT y w2 m q E.heap.size w2.heap.size (.slice r B x)/\Fk E w2 m q)/\(uT n w3 q b w2.heap.size w3.heap.size (.slice o p z)/\Fk w2 w3 q b)/\wx=((w3.setCell (Ad b 3) (.slice r B x)).setCell (Ad b 4) (.slice o p z))))
 case first=>
  refine aak (f:=10) (λ_=>True) [0,1,2,3,4,7,8,9] #[true,true,true,true,true,false,false,true,true,true,false,false,false,false,false,false,false,false] (λl=>l.take 5++(l.drop 7).take 3) (by kernel_rfl) (by kernel_rfl) (by kernel_rfl) (by kernel_rfl) (by kernel_rfl) (by kernel_rfl) trivial (λ_=>?_);simp only[aC,aO,aG,aQ,bZ,dP]
  iterate 8
   (refine zo.cons (v:=?_) (by rfl) (λw aw=>?_) ?_
    rotate_left
    ·(go_simp;first|done|with_reducible rfl)
    simp only[Act.put,ak,au,ay])
  refine zo.nil ?_;refine aP (rs:=[5,10]) (by kernel_rfl) (by simp) (lW rfl (λK d=>?_) (lW rfl (λK d=>?_) aJ))
  .go_simp;refine d.out _ _ trivial (λ_=>?_);clear d K;try simp only[ak,au,ay]
   refine aP (rs:=[6,10]) (by kernel_rfl) (by simp) (lW rfl (λK d=>?_) (lW rfl (λK d=>?_) aJ))
   .go_simp;refine(EG.out _ (aN _ _)).mono ?_;rintro A w2 ⟨r,B,x,rfl,C⟩;obtain⟨z4,z3,zf⟩:=HC.out w2 C.out.2;go_wp2_with fail;refine d.out _ _ trivial (λ_=>?_);clear d K;try simp only[ak,au,ay]
    refine aP (rs:=[10]) (by kernel_rfl) (by simp) (lW rfl (λK d=>?_) aJ);go_simp;refine d.out _ _ trivial (λ_=>?_);clear d K;try simp only[ak,au,ay]
    refine aP (rs:=[11]) (by kernel_rfl) (by simp) (lW rfl (λK d=>?_) aJ);go_simp;refine(U.out w2 _ C.out.2 (aN _ _)).mono ?_;rintro A w3 ⟨o,p,z,rfl,Z⟩;obtain⟨y4,y3,yf⟩:=S.out w2 w3 C.out.2 Z.out.2;go_wp2_with fail;refine d.out _ _ trivial (λ_=>?_);clear d K;try simp only[ak,au,ay]
    refine aP (rs:=[12]) (by kernel_rfl) (by simp) (lW rfl (λK d=>?_) aJ);go_simp;refine d.out _ _ trivial (λ_=>?_);clear d K;try simp only[ak,au,ay]
    refine aP (rs:=[13]) (by kernel_rfl) (by simp) (lW rfl (λK d=>?_) aJ);go_simp;refine d.out _ _ trivial (λ_=>?_);clear d K;try simp only[ak,au,ay]
    refine aP (rs:=[14]) (by kernel_rfl) (by simp) (lW rfl (λK d=>?_) aJ);go_simp;refine d.out _ _ trivial (λ_=>?_);clear d K;try simp only[ak,au,ay]
    refine aP (rs:=[15]) (by kernel_rfl) (by simp) (lW rfl (λK d=>?_) aJ);go_simp;refine d.out _ _ trivial (λ_=>?_);clear d K;try simp only[ak,au,ay]
    refine aP (rs:=[16]) (by kernel_rfl) (by simp) (lW rfl (λK d=>?_) aJ);go_simp;refine d.out _ _ trivial (λ_=>?_);clear d K;try simp only[ak,au,ay]
    refine aP (rs:=[17]) (by kernel_rfl) (by simp) (lW rfl (λK d=>?_) aJ);go_simp;refine d.out _ _ trivial (λ_=>?_);clear d K;try simp only[ak,au,ay]
    refine wpAnyH_done (by kernel_rfl) ?_ _;refine NoPanic.normal ?_;go_wp2_with fail;go_meet;exact⟨w2,w3,r,B,x,o,p,z,C.out,Z.out,rfl⟩
   .go_simp;refine d.out _ _ trivial (λ_=>?_);clear d K;try simp only[ak,au,ay]
    refine aP (rs:=[6]) (by kernel_rfl) (by simp) (lW rfl (λK d=>?_) aJ);go_simp;refine(EG.out _ (aN _ _)).mono ?_;rintro A w2 ⟨r,B,x,rfl,C⟩;obtain⟨z4,z3,zf⟩:=HC.out w2 C.out.2;go_wp2_with fail;refine d.out _ _ trivial (λ_=>?_);clear d K;try simp only[ak,au,ay]
    refine aP (rs:=[11]) (by kernel_rfl) (by simp) (lW rfl (λK d=>?_) aJ);go_simp;refine(U.out w2 _ C.out.2 (aN _ _)).mono ?_;rintro A w3 ⟨o,p,z,rfl,Z⟩;obtain⟨y4,y3,yf⟩:=S.out w2 w3 C.out.2 Z.out.2;go_wp2_with fail;refine d.out _ _ trivial (λ_=>?_);clear d K;try simp only[ak,au,ay]
    refine aP (rs:=[12]) (by kernel_rfl) (by simp) (lW rfl (λK d=>?_) aJ);go_simp;refine d.out _ _ trivial (λ_=>?_);clear d K;try simp only[ak,au,ay]
    refine aP (rs:=[13]) (by kernel_rfl) (by simp) (lW rfl (λK d=>?_) aJ);go_simp;refine d.out _ _ trivial (λ_=>?_);clear d K;try simp only[ak,au,ay]
    refine aP (rs:=[14]) (by kernel_rfl) (by simp) (lW rfl (λK d=>?_) aJ);go_simp;refine d.out _ _ trivial (λ_=>?_);clear d K;try simp only[ak,au,ay]
    refine aP (rs:=[15]) (by kernel_rfl) (by simp) (lW rfl (λK d=>?_) aJ);go_simp;refine d.out _ _ trivial (λ_=>?_);clear d K;try simp only[ak,au,ay]
    refine aP (rs:=[16]) (by kernel_rfl) (by simp) (lW rfl (λK d=>?_) aJ);go_simp;refine d.out _ _ trivial (λ_=>?_);clear d K;try simp only[ak,au,ay]
    refine aP (rs:=[17]) (by kernel_rfl) (by simp) (lW rfl (λK d=>?_) aJ);go_simp;refine d.out _ _ trivial (λ_=>?_);clear d K;try simp only[ak,au,ay]
    refine wpAnyH_done (by kernel_rfl) ?_ _;refine NoPanic.normal ?_;go_wp2_with fail;go_meet;exact⟨w2,w3,r,B,x,o,p,z,C.out,Z.out,rfl⟩
  .go_simp;refine d.out _ _ trivial (λ_=>?_);clear d K;try simp only[ak,au,ay]
   refine aP (rs:=[5]) (by kernel_rfl) (by simp) (lW rfl (λK d=>?_) aJ);go_simp;refine d.out _ _ trivial (λ_=>?_);clear d K;try simp only[ak,au,ay]
   refine aP (rs:=[6]) (by kernel_rfl) (by simp) (lW rfl (λK d=>?_) aJ);go_simp;refine(EG.out _ (aN _ _)).mono ?_;rintro A w2 ⟨r,B,x,rfl,C⟩;obtain⟨z4,z3,zf⟩:=HC.out w2 C.out.2;go_wp2_with fail;refine d.out _ _ trivial (λ_=>?_);clear d K;try simp only[ak,au,ay]
   refine aP (rs:=[11]) (by kernel_rfl) (by simp) (lW rfl (λK d=>?_) aJ);go_simp;refine(U.out w2 _ C.out.2 (aN _ _)).mono ?_;rintro A w3 ⟨o,p,z,rfl,Z⟩;obtain⟨y4,y3,yf⟩:=S.out w2 w3 C.out.2 Z.out.2;go_wp2_with fail;refine d.out _ _ trivial (λ_=>?_);clear d K;try simp only[ak,au,ay]
   refine aP (rs:=[12]) (by kernel_rfl) (by simp) (lW rfl (λK d=>?_) aJ);go_simp;refine d.out _ _ trivial (λ_=>?_);clear d K;try simp only[ak,au,ay]
   refine aP (rs:=[13]) (by kernel_rfl) (by simp) (lW rfl (λK d=>?_) aJ);go_simp;refine d.out _ _ trivial (λ_=>?_);clear d K;try simp only[ak,au,ay]
   refine aP (rs:=[14]) (by kernel_rfl) (by simp) (lW rfl (λK d=>?_) aJ);go_simp;refine d.out _ _ trivial (λ_=>?_);clear d K;try simp only[ak,au,ay]
   refine aP (rs:=[15]) (by kernel_rfl) (by simp) (lW rfl (λK d=>?_) aJ);go_simp;refine d.out _ _ trivial (λ_=>?_);clear d K;try simp only[ak,au,ay]
   refine aP (rs:=[16]) (by kernel_rfl) (by simp) (lW rfl (λK d=>?_) aJ);go_simp;refine d.out _ _ trivial (λ_=>?_);clear d K;try simp only[ak,au,ay]
   refine aP (rs:=[17]) (by kernel_rfl) (by simp) (lW rfl (λK d=>?_) aJ);go_simp;refine d.out _ _ trivial (λ_=>?_);clear d K;try simp only[ak,au,ay]
   refine wpAnyH_done (by kernel_rfl) ?_ _;refine NoPanic.normal ?_;go_wp2_with fail;go_meet;exact⟨w2,w3,r,B,x,o,p,z,C.out,Z.out,rfl⟩
 case rest=>
  obtain⟨w2,w3,r,B,aa,o,p,t,p1,p2,hW⟩:=hcut.out;have s2:=p1.2.size;have s3:=p2.2.size;obtain⟨ai,ag,M⟩:=JF.out;have N:=(p2.2.keep b (by omega) (by omega)).trans ((p1.2.keep b (by omega) (by omega)).trans ag);have i:wc.heap[b]? =some (.cells ([Im Q,Im (jS [e.jw,sumOf y,sumOf n]),.iface D (Pt F 0),.slice r B aa,.slice o p t,.bool false]:List jm).toArray 341):=by
   rw[hW];exact aK _ _ _ _ _ _ (aK _ _ _ _ _ _ N)
  have X:∀j,j≠b->wc.heap[j]? =w3.heap[j]? :=λj hj=>by
   rw[hW];exact(qZ j hj).trans (qZ j hj)
  have aD:wc.heap.size=w3.heap.size:=by rw[hW,dI,dI]
  have G:Fk w wc lo hi:=by
   rw[hW];exact(((ai.trans (p1.2.wide (by omega) (by omega))).trans (p2.2.wide (by omega) (by omega))).trans (Fk.set J L)).trans (Fk.set J L)
  have F1:mO e.does.fd e.jw wc lo b w.heap.size wc.heap.size (.iface D (Pt F 0)):=(M.later λj hj=>(X j (by omega)).trans ((p2.2.keep j (by omega) (by omega)).trans (p1.2.keep j (by omega) (by omega)))).wide (aj _) (by omega) (aj _) (by omega) (aV _);have F2:uT y wc lo b w.heap.size wc.heap.size (.slice r B aa):=(p1.1.later λj hj=>(X j (by omega)).trans (p2.2.keep j (by omega) (by omega))).wide (by omega) (by omega) (by omega) (by omega);have F3:uT n wc lo b w.heap.size wc.heap.size (.slice o p t):=(p2.1.later λj hj=>X j (by omega)).wide (by omega) (by omega) (by omega) (by omega);clear hcut hW EG U HC S p1 p2 N ag ai M JF JG X x z;obtain⟨e1,_,_,x1,X1,y1,z1,_,_,_,_,_,_,g6⟩:=id F1;cases z1;have Hw:=jA (aai (g6 wc (qA.refl _ _ _ _ _)).2);have d2:wc.cell? (Ad b 2)=some (.iface D (Pt F 0)):=jG i;have d4:wc.cell? (Ad b 4)=some (.slice o p t):=jG i;have fz:∀j,wc.frozen? (Ad b j)=false:=λj=>nA i;have av:w.heap.size<=wc.heap.size:=by omega
  have GV:(qo Q e y n).does.fs=(Aa e y n).fs:=rfl;cases O:e.does.fd.known with
  |false=>
   rw[O]at Hw;have HE:Hid (zO (qo Q e y n).does.fs (qo Q e y n).jw wc lo hi w.heap.size wc.heap.size 339 b/\Fk w wc lo hi):=by
    refine⟨akU J L (by omega) i F1 F2 F3 ac (λ_=>by show 1+(e.jw+sumOf y+sumOf n)<=jS [e.jw,sumOf y,sumOf n];omega) ?_,G⟩;rw[GV];simp only[Aa];rw[O]
    rfl
   clear F1 F2 F3 G i g6 GV;go_wp2_with fail;refine Hw.out.mono ?_;rintro A wz ⟨rfl,rfl⟩;go_wp2_with fail;exact cu (v:=.tuple #[]) (by simp[results,Tryz.results335,go_sem]) rfl ⟨rfl,HE.out⟩
  |true=>
   rw[O]at Hw;simp only[dM]at Hw;have d5:wc.cell? (Ad b 5)=some (.bool false):=jG i;have d3:wc.cell? (Ad b 3)=some (.slice r B aa):=jG i;by_cases hz:e.does.fd.val=0
   .rw[hz]at Hw;have HE:Hid (zO (qo Q e y n).does.fs (qo Q e y n).jw (((wc.setCell (Ad b 5) (.bool true)).setCell (Ad b 3) (.slice o p t)).setCell (Ad b 4) (Nl)) lo hi w.heap.size (((wc.setCell (Ad b 5) (.bool true)).setCell (Ad b 3) (.slice o p t)).setCell (Ad b 4) (Nl)).heap.size 339 b/\Fk w (((wc.setCell (Ad b 5) (.bool true)).setCell (Ad b 3) (.slice o p t)).setCell (Ad b 4) (Nl)) lo hi):=by
     have ab:=aK _ _ 4 _ _ (Nl) (aK _ _ 3 _ _ (.slice o p t) (aK _ _ 5 _ _ (.bool true) i));have ad:(((wc.setCell (Ad b 5) (.bool true)).setCell (Ad b 3) (.slice o p t)).setCell (Ad b 4) (Nl)).heap.size=wc.heap.size:=by rw[dI,dI,dI]
     refine⟨ahS (u0:=.iface D (Pt F 0)) J L (by omega) ab (y:=n) ?_ ac (λ_=>by show sumOf n<=jS [e.jw,sumOf y,sumOf n];omega) ?_,((G.trans (Fk.set J L)).trans (Fk.set J L)).trans (Fk.set J L)⟩
     .rw[ad];exact F3.later λj hj=>(qZ j (by omega)).trans ((qZ j (by omega)).trans (qZ j (by omega)))
     .rw[GV];simp only[Aa];rw[O,hz]
      rfl
    clear F1 F2 F3 G i g6 GV;go_wp2_with fail;refine Hw.out.mono ?_;rintro A wz ⟨rfl,rfl⟩;go_wp2_with fail;go_end0;exact⟨rfl,HE.out⟩
   .have aE:(e.does.fd.val==0)=false:=by rw[beq_eq_false_iff_ne];exact hz
    have HE:Hid (zO (qo Q e y n).does.fs (qo Q e y n).jw ((wc.setCell (Ad b 5) (.bool true)).setCell (Ad b 4) (Nl)) lo hi w.heap.size ((wc.setCell (Ad b 5) (.bool true)).setCell (Ad b 4) (Nl)).heap.size 339 b/\Fk w ((wc.setCell (Ad b 5) (.bool true)).setCell (Ad b 4) (Nl)) lo hi):=by
     have ab:=aK _ _ 4 _ _ (Nl) (aK _ _ 5 _ _ (.bool true) i);have ad:((wc.setCell (Ad b 5) (.bool true)).setCell (Ad b 4) (Nl)).heap.size=wc.heap.size:=by rw[dI,dI]
     refine⟨ahS (u0:=.iface D (Pt F 0)) J L (by omega) ab (y:=y) ?_ ac (λ_=>by show sumOf y<=jS [e.jw,sumOf y,sumOf n];omega) ?_,(G.trans (Fk.set J L)).trans (Fk.set J L)⟩
     .rw[ad];exact F2.later λj hj=>(qZ j (by omega)).trans (qZ j (by omega))
     .rw[GV];simp only[Aa];rw[O];simp only[dM,jg hz]
    clear F1 F2 F3 G i g6 GV hz;generalize e.does.fd.val=ev at *;go_wp2_with fail;refine Hw.out.mono ?_;rintro A wz ⟨rfl,rfl⟩;go_wp2_with fail;go_end0;exact⟨rfl,HE.out⟩
end
end
end Go.Proofs.YthllhabjfchgiaaGreatDoor
