import Derived.Test.YthllhabjfchgiaaGreatDoorHs37
import Derived.Lib.AtoiBound
set_option maxRecDepth 100000
set_option maxHeartbeats 8000000
set_option linter.unusedSimpArgs false
namespace Go.Proofs.YthllhabjfchgiaaGreatDoor
section
open Go.RowKit Hx
section
variable {w w' w1 w2 w3 wr:jk}{lo hi m b H S:Nat}{u v:jm}{e l r:Ex}{a:Int}{T:jo}{c:Co}{x:Sx}
def zl(fs fs':List (Wd×Ex)):Prop:=fs.map (λb=>(b.1.text,b.2.does.give))=fs'.map (λb=>(b.1.text,b.2.does.give))
theorem adR{t t':ji}{d d':Dn}(f:t=t')(g:d.give=d'.give)(one:Int):c.inside t d one=c.inside t' d' one:=by unfold Co.inside;rw[f,g]
theorem alK{b d:Wd×Ex}(f:b.1.text=d.1.text)(g:b.2.does.give=d.2.does.give)(one:Int):yB one c b=yB one c d:=by
 unfold yB;rw[adR f g]
theorem acG:∀{g f:List (Wd×Ex)},zl g f->∀(d:Int)(c:Co),Co.jE d g c=Co.jE d f c
 |[],[],_,_,_=>rfl
 |[],_::_,h,_,_=>by simp[zl]at h
 |_::_,[],h,_,_=>by simp[zl]at h
 |b::g,b'::f,h,d,c=>by
  simp only[zl,dL,iy,Prod.mk.injEq]at h;obtain⟨⟨i,j⟩,k⟩:=h;have e:∀(b:Wd×Ex)(g:List (Wd×Ex))(c:Co),Co.jE d (b::g) c=Co.jE d g (yB d c b):=λ_ _ _=>rfl;rw[e,e,alK i j,acG k]
theorem zl.length{fs d:List (Wd×Ex)}(h:zl fs d):fs.length=d.length:=by
 have:=congrArg List.length h;simpa using this
theorem afH{fs d:List (Wd×Ex)}(h:zl fs d)(list:Int):c.ku list fs=c.ku list d:=by
 unfold Co.ku;rw[acG h]
theorem acE{fs d:List (Wd×Ex)}(h:zl fs d)(list:Int):c.nk list fs=c.nk list d:=by
 unfold Co.nk;rw[h.length,afH h]
def qU(fs:List (Wd×Ex)):List (Wd×Ex):=(fs.filter λb=>!(b.2.does.fd.lg true)).map λb=>(b.1,{b.2 with does:=b.2.does.fd.dn})
theorem acM{fs:List (Wd×Ex)}{i:Nat}{b:Wd×Ex}(h:fs[i]? =some b):qU (fs.take (i+1))=qU (fs.take i)++(if b.2.does.fd.lg true then []else [(b.1,{b.2 with does:=b.2.does.fd.dn})]):=by
 have d:fs.take (i+1)=fs.take i++[b]:=by rw[fU,h];rfl
 rw[d];unfold qU;rw[List.filter_append,dF]
 congr 1
 cases f:b.2.does.fd.lg true<;>simp[f]
def zW(lo m H:Nat)(w:jk)(own:Option Nat)(Q:jk->Nat->Nat->Prop):Prop:=
 ∃l1 m1 H1 h1,lo<=l1/\m1<=m/\H<=H1/\h1<=w.heap.size/\(∀g,own=some g->g<H1\/h1<=g)/\∀w',qA w w' l1 m1 H1 h1->Q w' l1 h1
theorem zW.later{Q:jk->Nat->Nat->Prop}{d own':Option Nat}{o:Nat}(h:zW lo m H w d Q)(N:m<=o)(O:w.heap.size<=w'.heap.size)(B:∀k,lo<=k->k<m->w'.heap[k]? =w.heap[k]?)(C:∀k,H<=k->k<w.heap.size->some k≠d->w'.heap[k]? =w.heap[k]?)
 (D:own'=d\/∃g,own'=some g/\w.heap.size<=g):zW lo o H w' own' Q:=by
 obtain⟨J,K,y,z,F,P,G,R,n,I⟩:=h;refine⟨J,K,y,z,F,by omega,G,by omega,λg i=>?_,λw2 E=>I w2 λk f=>?_⟩
 .rcases D with rfl|⟨L,j,M⟩
  .exact n g i
  .rw[j]at i;cases i;exact je (by omega)
 .refine(E k f).trans ?_;rcases f with f|f
  .exact B k (by omega) (by omega)
  .refine C k (by omega) (by omega) λA=>?_;have:=n k A.symm;omega
theorem afS{d k n:Nat}{E:jo}{xs:List jm}(h:w.ownsRow d E k v n xs)(z:∀g,v.ownBlock=some g->w'.heap[g]? =w.heap[g]?):w'.ownsRow d E k v n xs:=by
 refine⟨h.1,?_⟩;rcases h.2 with A|⟨g,i,j,rfl,o,y,f⟩
 .exact .inl A
 .exact .inr ⟨g,i,j,rfl,o,(z g rfl).trans y,f⟩
theorem afQ{f C n g cap:Nat}{E:jo}{xs:List jm}(h:w.ownsRow f E C (.slice (some (Ad g 0)) n cap) n xs):∃d,f<=g/\w.heap[g]? =some (.cells d E)/\∀(j:Nat)(u:jm),xs[j]? =some u->d[j]? =some u:=by
 rcases h.2 with⟨o,_⟩|⟨D,k,d,B,y,z,_,_,_,A⟩
 .cases o
 .cases B;refine⟨d,y,z,λj u i=>?_⟩;rw[<-A,iW]at i;split at i
  .simpa using i
  .simp at i
structure vM(x:Sx)(S H m:Nat)(wr:jk)(k:Nat)(kv:jm)(fs:List (Wd×Ex))(cells:List jm):Prop where
 row:wr.ownsRow H 361 3 kv fs.length cells
 each:∀(j:Nat)(b:Wd×Ex),fs[j]? =some b->∃u,cells[j * 3]? =some (.string b.1.text)/\cells[j * 3+1]? =some (Im b.1.at')/\cells[j * 3+2]? =some u/\zW (S+1) m H wr kv.ownBlock λw lo hi=>b.2.here b.2.at' w lo hi u
 all:∀b∈fs,kF b.2
 same:zl fs (qU (x.jE.take k))
 sum:(fs.map λb=>1+b.2.jw).sum<=((x.jE.take k).map λb=>1+b.2.jw).sum
 len:fs.length<=k
theorem vM.nil(x:Sx)(S H m:Nat)(w:jk):vM x S H m w 0 (Nl) [] []:=by
 refine⟨fK _ _ _ _,λj b d=>by simp at d,λb d=>by simp at d,?_,by simp,aj _⟩;simp[zl,qU]
theorem vM.pI{y:jm}{fs:List (Wd×Ex)}{d:List jm}{k z:Nat}(h:vM x S H m w k y fs d)(G:m<=z)(I:w.heap.size<=w'.heap.size)(E:∀j,S<j->j<m->w'.heap[j]? =w.heap[j]?)(i:∀j,H<=j->j<w.heap.size->w'.heap[j]? =w.heap[j]?):vM x S H z w' k y fs d:=by
 refine⟨afS h.row λg n=>i g (h.row.lt g n).1 (h.row.lt g n).2,λj b F=>?_,h.all,h.same,h.sum,h.len⟩;obtain⟨u,A,B,C,D⟩:=h.each j b F;exact⟨u,A,B,C,D.later G I (λk o f=>E k (by omega) f) (λk o f _=>i k o f) (jf rfl)⟩
theorem vM.skip{g:jm}{fs:List (Wd×Ex)}{d:List jm}{k:Nat}{b:Wd×Ex}(h:vM x S H m w k g fs d)(f:x.jE[k]? =some b)(n:0<=b.2.jw)(j:b.2.does.fd.lg true=true):vM x S H m w (k+1) g fs d:=by
 refine⟨h.row,h.each,h.all,?_,?_,by have:=h.len;omega⟩
 .rw[acM f,j];simpa using h.same
 .have i:x.jE.take (k+1)=x.jE.take k++[b]:=by rw[fU,f];rfl
  rw[i,dF,List.sum_append];have:=h.sum;simp only[dL,iM,gY,List.sum_nil];omega
theorem vM.add{y:jm}{fs:List (Wd×Ex)}{f:List jm}{k n cap G:Nat}{b:Wd×Ex}{i:Ex}{u:jm}(h:vM x S H m w k y fs f)(K:x.jE[k]? =some b)(Z:b.2.does.fd.lg true=false)
 (B:w.grownBy w' y.ownBlock)(hH:H<=w.heap.size)(X:m<=H)(o:w'.ownsRow H 361 3 (.slice (some (Ad n 0)) (fs.length+1) cap) (fs.length+1) (f++[.string b.1.text,Im b.1.at',u]))(A:y.ownBlock=some n\/n=G)(hn:w.heap.size<=G)
 (V:kF i)(C:i.does.give=b.2.does.fd.give)(R:i.jw<=b.2.jw)(W:zW (S+1) m H w y.ownBlock λw lo hi=>i.here i.at' w lo hi u):vM x S H m w' (k+1) (.slice (some (Ad n 0)) (fs.length+1) cap) (fs++[(b.1,i)]) (f++[.string b.1.text,Im b.1.at',u]):=by
 have U:f.length=fs.length * 3:=h.row.1;have I:∀{Q:jk->Nat->Nat->Prop},zW (S+1) m H w y.ownBlock Q->zW (S+1) m H w' (Value.slice (some (Ad n 0)) (fs.length+1) cap).ownBlock Q:=λY=>by
  refine Y.later (aj _) B.size (λk k1 L=>B.block k (by omega) λe=>?_) (λk k1 L k3=>B.block k L k3) ?_
  .have:=(h.row.lt k e.symm).1;omega
  .rcases A with z|z
   .exact jf (by rw[z];rfl)
   .exact je ⟨n,rfl,by omega⟩
 refine⟨by rw[aA];exact o,λj d g=>?_,λd g=>?_,?_,?_,?_⟩
 .rcases dG j fs.length with D|D
  .rw[aT D]at g;obtain⟨u',M,N,O,P⟩:=h.each j d g;refine⟨u',?_,?_,?_,I P⟩
   .rw[aT (by omega)];exact M
   .rw[aT (by omega)];exact N
   .rw[aT (by omega)];exact O
  .rw[bW D]at g;have E:j-fs.length=0:=by
    rcases gJ (j-fs.length)with J|J
    .exact J
    .rw[bV (by simp;omega)]at g;cases g
   rw[E]at g;simp only[dw,bJ]at g;subst g;have F:j=fs.length:=by omega
   subst F;refine⟨u,?_,?_,?_,I W⟩
   .rw[bW (by omega),show fs.length * 3-f.length=0 by omega];rfl
   .rw[bW (by omega),show fs.length * 3+1-f.length=1 by omega];rfl
   .rw[bW (by omega),show fs.length * 3+2-f.length=2 by omega];rfl
 .rcases List.mem_append.1 g with g|g
  .exact h.all d g
  .rw[cO.1 g];exact V
 .rw[acM K,Z];have:=h.same;simp only[zl,dF]at this⊢;rw[this];simp only[aH,cZ,dL,iM,List.append_cancel_left_eq,iy,Prod.mk.injEq,true_and,and_true];exact C
 .have z:x.jE.take (k+1)=x.jE.take k++[b]:=by rw[fU,K];rfl
  rw[z,dF,List.sum_append,dF,List.sum_append];have:=h.sum;simp only[dL,iM,gY,List.sum_nil];omega
 .have:=h.len;simp only[aA,aF,bg];omega
def TS(x:Sx)(w:jk)(lo m H hi S:Nat):Prop:=
 ∃fs,zl fs x.fold/\(∀b∈fs,kF b.2)/\(fs.map λb=>1+b.2.jw).sum<=(x.jE.map λb=>1+b.2.jw).sum/\fs.length<=x.jE.length/\lo<=S/\S<m/\
  ∀w',qA w w' lo m H hi->BH {x with jE:=fs} w' lo hi (Pt S 0)
theorem vM.done{A Y:jm}{fs:List (Wd×Ex)}{y:List jm}(h:vM x S H m wr x.jE.length A fs y)(f:lo<=S)(F:S<hi)(hm:m<=hi)(hH:hi<=H)(hs:H<=wr.heap.size)(hb:wr.heap[S]? =some (.cells #[Im x.at',Im x.jw,.string x.base,Im x.of,Y] 348)):
 TS x (wr.setCell (Ad S 4) A) lo hi H (wr.setCell (Ad S 4) A).heap.size S:=by
 have g:=mM wr S 4 A;have J:(wr.setCell (Ad S 4) A).heap[S]? =some (.cells #[Im x.at',Im x.jw,.string x.base,Im x.of,A] 348):=aK _ _ _ _ _ _ hb;have z:x.jE.take x.jE.length=x.jE:=eU (aj _);have n:=h.same;have o:=h.sum;rw[z]at n o;refine⟨fs,n,h.all,o,h.len,f,F,λw' O=>⟨S,A,rfl,f,by have:=g.size;omega,(O S (jf ⟨f,F⟩)).trans J,?_⟩⟩;have C:∀j,j≠S->(lo<=j/\j<hi)\/(H<=j/\j<wr.heap.size)->w'.heap[j]? =wr.heap[j]? :=λj Q hk=>(O j (by have:=g.size;omega)).trans (qZ j Q);obtain⟨ka,kc,E⟩:=XU h.row;cases D:ka with
 |none=>
  subst E D;refine jf ?_;rcases h.row.2 with⟨f,F⟩|⟨_,_,_,f,_⟩
  .exact⟨dW F,f⟩
  .cases f
 |some ad=>
  subst E D;have i:=h.row;obtain⟨B,L⟩:∃B,ad=(Ad B 0):=by
   rcases i.2 with⟨f,_⟩|⟨Z,_,_,f,_⟩
   .cases f
   .cases f;exact⟨Z,rfl⟩
  subst L;obtain⟨I,R,U,G⟩:=afQ i;have N:=(i.lt B rfl).2;refine je ⟨B,kc,I,rfl,by omega,by have:=g.size;omega,(C B (by omega) (je ⟨R,N⟩)).trans U,λk d P=>?_⟩;obtain⟨u,V,W,X,l1,m1,H1,y1,k1,k2,k3,k4,k5,k6⟩:=h.each k d P;refine⟨u,G _ _ V,G _ _ W,G _ _ X,?_⟩;have M:=h.all d (bT P);have K:=k6 w' λj Q=>C j (by omega) (by omega);exact(M.ok.law _).wide _ _ _ _ _ _ K (by omega) (by have:=g.size;omega)
end
def AP:List (Wd×Ex)->List (Sz×Val)->Int->Int->Prop
 |[],zs,ts,cs=>zs=[]/\ts=0/\cs=0
 |b::bs,zs,ts,cs=>∃z f zs' t ts' cs',zs=(z,f)::zs'/\MX b.2 z f/\Cc t b.2 z/\ts=6+t+ts'/\cs=1+b.2.jw+cs'/\AP bs zs' ts' cs'
theorem Vt:∀{d:List (Wd×Ex)}{i:List (Sz×Val)}{h g:Int}{b:Wd×Ex}{z:Sz}{f:Val}{t:Int},AP d i h g->MX b.2 z f->Cc t b.2 z->AP (d++[b]) (i++[(z,f)]) (h+(6+t)) (g+(1+b.2.jw))
 |[],_,_,_,b,z,f,t,⟨h1,h2,h3⟩,hm,hs=>by
  subst h1 h2 h3;exact⟨z,f,[],t,0,0,rfl,hm,hs,by omega,by omega,rfl,rfl,rfl⟩
 |c::d,_,_,_,b,z,f,t,⟨z',f',zs',t',ts',cs',h1,h2,h3,h4,h5,h6⟩,hm,hs=>by
  subst h1 h4 h5;exact⟨z',f',zs'++[(z,f)],t',ts'+(6+t),cs'+(1+b.2.jw),rfl,h2,h3,by omega,by omega,Vt h6 hm hs⟩
structure aiI(fs:List (Wd×Ex))(zs:List (Sz×Val))(tf cs W:Int)(D:Nat):Prop where
 TG:0<=tf
 Qo:0<=cs
 jL:0<=mZ zs/\mZ zs<=20 * tf
 jC:0<=lX zs
 some:fs≠[]->6<=tf/\1<=cs
 pO:∀p∈zs,uD p.2
 wide:0<=W/\2 * W<=tf
 each:∀p∈zs,p.1.wide<=W/\p.1.deep<=D
 all:cs<=1000000->lX zs+38 * (fs.length:Int)<=40 * cs/\(fs=[]\/((8^D:Nat):Int)<=cs)
 none:fs=[]->D=0/\zs=[]
theorem QB:∀{y:List (Wd×Ex)}{g:List (Sz×Val)}{B j:Int},AP y g B j->∃W D,aiI y g B j W D
 |[],_,_,_,⟨h1,h2,h3⟩=>by
  subst h1 h2 h3;exact⟨0,0,⟨by omega,by omega,by simp[mZ],by simp[lX],λh=>jl rfl h,by simp,by omega,by simp,λ_=>⟨by simp[lX],jf rfl⟩,λ_=>⟨rfl,rfl⟩⟩⟩
 |b::bs,_,_,_,⟨z,f,g,t,ts,j,h1,h2,h3,h4,h5,h6⟩=>by
  subst h1 h4 h5;obtain⟨W,D,q⟩:=QB h6;have C:=q.TG;have E:=q.Qo;have F:=q.jL;have G:=q.jC;have I:=q.wide;have J:=h3.tok;have K:=h3.wide;have L:=h3.jL;have M:=h3.jC;have N:=h3.jw;have Q:mZ ((z,f)::g)=z.jL+3+mZ g:=by simp[mZ]
  have R:lX ((z,f)::g)=z.jC+1+lX g:=by simp[lX]
  refine⟨max W z.wide,max D z.deep,⟨by omega,by omega,by omega,by omega,λ_=>⟨by omega,by omega⟩,λp d=>?_,by omega,λp d=>?_,λU=>?_,λh=>by cases h⟩⟩
  .rcases dh.1 d with rfl|d
   .exact h2.give.pO
   .exact q.pO p d
  .rcases dh.1 d with rfl|d
   .exact⟨by show z.wide<=_;omega,by show z.deep<=_;omega⟩
   .have:=q.each p d;omega
  .obtain⟨O,i⟩:=q.all (by omega);obtain⟨P,o⟩:=h3.all (by omega);have A:((b::bs).length:Int)=bs.length+1:=by simp
   refine⟨by omega,je ?_⟩;rcases gX D z.deep with n|n
   .rw[gG n];omega
   .rw[gV n];rcases i with i|i
    .have:=(q.none i).1;subst this;have:z.deep=0:=by omega
     rw[this]at o;have k:(8^0:Nat)=1:=rfl;rw[k]at o⊢;omega
    .omega
theorem abE{c:Ck}{t:ji}{f i one d:Int}{e:Ex}(B:∀k,kX e k->e.does.look k=k)(h:(c.bracket t f e.does i one d).en=0):kX e (c.add t one false)/\e.does.jZ (c.add t one false).jy=d/\c.bracket t f e.does i one d=c/\c.en=0:=by
 have h:=h;have A:c.bracket t f e.does i one d=((e.does.look ((c.nD t f).add t one false)).want (e.does.jZ ((c.nD t f).add t one false).jy) i d).cut c.jy.length:=rfl;obtain⟨o,y,j⟩:=AO h;have n:=B _ j;have C:(c.nD t f).en=0:=by
  have g:=j;rw[n]at g;exact g
 obtain⟨_,z,D⟩:=Xj C;rw[z]at o j n y;refine⟨j,o,?_,D⟩;rw[A,z,y,n];show(⟨(c.jy++[(⟨t,one,false⟩:Kn)]).take c.jy.length,c.en,c.ea⟩:Ck)=c;rw[iK]
theorem RG{kind:Int}:∀{f:List (Wd×Ex)}{d:Ck},(∀b∈f,∀d,kX b.2 d->b.2.does.look d=d)->(oG kind f d).en=0->oG kind f d=d/\∀b∈f,kX b.2 (d.add b.1.text kind false)/\b.2.does.jZ (d.add b.1.text kind false).jy=2
 |[],d,_,_=>⟨rfl,by simp⟩
 |b::f,d,hl,h=>by
  have e:oG kind (b::f) d=oG kind f (d.bracket b.1.text b.1.at' b.2.does b.2.at' kind 2):=rfl;rw[e]at h⊢;obtain⟨i,j⟩:=RG (λc g=>hl c (aI _ g)) h;rw[i]at h;obtain⟨k,n,o,y⟩:=abE (hl b (aW ..)) h;rw[i];rw[o]at j⊢;refine⟨rfl,λc g=>?_⟩;rcases dh.1 g with rfl|g
  .exact⟨k,n⟩
  .exact j c g
theorem QD:∀{g:List (Wd×Ex)}{j:List (Sz×Val)}{i h:Int},AP g j i h->∀b∈g,∀d,kX b.2 d->b.2.does.look d=d
 |[],_,_,_,_,b,f,_,_=>by simp at f
 |_::_,_,_,_,⟨_,_,_,_,_,_,_,h2,_,_,_,h6⟩,b,f,d,hk=>by
  rcases dh.1 f with rfl|f
  .exact h2.look d hk
  .exact QD h6 b f d hk
theorem QG{ck:Ck}{kind:Int}:∀{g:List (Wd×Ex)}{d:List (Sz×Val)}{j h:Int},AP g d j h->(∀b∈g,kX b.2 (ck.add b.1.text kind false))->zQ ck kind g d
 |[],_,_,_,⟨h1,_,_⟩,_=>h1
 |b::bs,_,_,_,⟨z,f,d,t,ts,h,h1,h2,h3,h4,h5,h6⟩,hl=>
  ⟨z,f,d,h1,h2.give.of λk e=>by rw[e];exact hl b (aW ..),QG h6 λc i=>hl c (aI _ i)⟩
def oL:List (Wd×Ex)->List (Sz×Val)->List (Sz×Val)
 |b::bs,p::zs=>if b.2.does.fd.lg true then oL bs zs else p::oL bs zs
 |_,_=>[]
theorem acL(b:Wd×Ex)(bs:List (Wd×Ex)):qU (b::bs)=if b.2.does.fd.lg true then qU bs else (b.1,{b.2 with does:=b.2.does.fd.dn})::qU bs:=by
 unfold qU;rw[List.filter_cons];cases b.2.does.fd.lg true<;>simp
theorem QC{ck:Ck}{kind:Int}:∀{d:List (Wd×Ex)}{g:List (Sz×Val)}{k h:Int},AP d g k h->(∀b∈d,kX b.2 (ck.add b.1.text kind false))->zQ ck kind (qU d) (oL d g)
 |[],_,_,_,⟨h1,_,_⟩,_=>by
  subst h1
  rfl
 |b::bs,_,_,_,⟨z,f,g,t,ts,h,h1,h2,h3,h4,h5,h6⟩,hl=>by
  subst h1;have i:=QC h6 λc j=>hl c (aI _ j);rw[acL];unfold oL;split
  .exact i
  .exact⟨z,f,oL bs g,rfl,h2.fold.of λn e=>by rw[e];exact hl b (aW ..),i⟩
theorem II:∀{g:List (Wd×Ex)}{f:List (Sz×Val)},∀p∈oL g f,p∈f
 |[],_,p,d=>by simp[oL]at d
 |_::_,[],p,d=>by simp[oL]at d
 |b::bs,q::f,p,d=>by
  unfold oL at d;split at d
  .exact aI _ (II p d)
  .rcases dh.1 d with rfl|d
   .exact aW ..
   .exact aI _ (II p d)
theorem Qy:∀{g:List (Wd×Ex)}{d:List (Sz×Val)}{i h:Int},AP g d i h->lX (oL g d)<=lX d/\mZ (oL g d)<=mZ d/\0<=mZ (oL g d)/\0<=lX (oL g d)
 |[],_,_,_,⟨h1,_,_⟩=>by
  subst h1;simp[oL,lX,mZ]
 |b::bs,_,_,_,⟨z,f,d,t,ts,h,h1,h2,h3,h4,h5,h6⟩=>by
  subst h1;obtain⟨B,C,D,E⟩:=Qy h6;have j:=h3.jL;have k:=h3.jC;have n:mZ ((z,f)::d)=z.jL+3+mZ d:=by simp[mZ]
  have o:lX ((z,f)::d)=z.jC+1+lX d:=by simp[lX]
  unfold oL;split
  .omega
  .have y:mZ ((z,f)::oL bs d)=z.jL+3+mZ (oL bs d):=by simp[mZ]
   have A:lX ((z,f)::oL bs d)=z.jC+1+lX (oL bs d):=by simp[lX]
   omega
theorem qG.know{ck:Ck}{e:List (ji×Int)}{σ:Int->Int}(h:qG ck e σ){t:ji}{kind i:Int}{y:Bool}(hi:jK i)(A:kind=2->i=0\/i=1):qG (ck.add t kind y) (e++[(t,i)]) σ:=by
 have B:ck.jy.length=e.length:=by have:=congrArg List.length h.jy;simpa using this
 refine⟨h.jF,?_,λj k n d f=>?_⟩
 .show(ck.jy++[(⟨t,kind,y⟩:Kn)]).map (λk=>k.name.data.toList)=_;rw[dF,dF,h.jy]
  rfl
 .have d:(ck.jy++[(⟨t,kind,y⟩:Kn)])[j]? =some k:=d;rcases dG j ck.jy.length with o|g
  .rw[aT o]at d;rw[aT (by omega)]at f;exact h.vals j k n d f
  .rw[bW g]at d;rw[bW (by omega)]at f;rcases gJ (j-ck.jy.length)with z|z
   .rw[z]at d;rw[show j-e.length=0 by omega]at f;simp only[dw,bJ]at d f;subst d f;exact⟨hi,A⟩
   .rw[bV (by simp;omega)]at d;cases d
theorem WC{ck:Ck}{kind:Int}(o:kind≠2){g:List (ji×Int)}{v:Vw}{σ:Int->Int}(y:qG ck g σ)(A:nM v){i:Int}(hi:0<=i/\i<64):∀{j:List (Wd×Ex)}{h:List (Sz×Val)}{D n:Int},AP j h D n->(∀b∈j,kX b.2 (ck.add b.1.text kind false))->l7 (qU j) (oL j h) g v σ i=l7 j h g v σ i
 |[],_,_,_,_,_=>rfl
 |b::bs,_,_,_,⟨z,f,h,t,ts,n,h1,h2,h3,h4,h5,h6⟩,hl=>by
  subst h1;have B:=WC o y A hi h6 λc C=>hl c (aI _ C);rw[acL];unfold oL;by_cases k:b.2.does.fd.lg true=true
  .rw[jh k,jh k];have d:=(Ah h2 k (hl b (aW ..))).1 (g++[(b.1.text,i)]) v σ (y.know (by unfold jK;omega) λe=>jl e o) A;simp only[dM]at d;have:l7 (b::bs) ((z,f)::h) g v σ i=l7 bs h g v σ i:=by simp[l7,d]
   rw[this];exact B
  .rw[jg k,jg k];simp only[l7];rw[B]
theorem Qz{α β:Type}{g h:β->α->β}:∀{l:List α}{a:β},(∀i∈l,∀b,g b i=h b i)->l.foldl g a=l.foldl h a
 |[],_,_=>rfl
 |i::l,a,hh=>by
  rw[bP,bP,hh i (aW ..)];exact Qz λj d=>hh j (aI _ d)
theorem UR:∀(n:Nat)(x:Int),0<=x->x<18446744073709551616->∀i∈xJ n x,0<=i/\i<64
 |0,_,_,_,i,h=>by simp[xJ]at h
 |n+1,x,h0,h1,i,h=>by
  unfold xJ at h;split at h
  .simp at h
  .rename_i d;rcases dh.1 h with rfl|h
   .exact YD (by omega) h1
   .have:=ND (x:=x) (by omega) h1;exact UR n _ this.1 (by omega) i h
theorem RZ(v:Vw)(list:Int):∀i∈rM v list,0<=i/\i<64:=by
 have d:=FT (bits .and .i64 (v.all list) (v.all list));exact UR _ _ d.1 d.2
theorem ako:∀n:Fin 9,(bitsOf (nY (bits .and .i64 (pK n.val) (pK n.val)))).foldl vZ 0=pK n.val:=by decide+kernel
theorem akn:∀n:Fin 17,(bitsOf (nY (bits .and .i64 (pK n.val) (pK n.val)))).foldl vZ 0=pK n.val:=by decide+kernel
theorem akm:∀n:Fin 17,(bitsOf (nY (bits .and .i64 (wrap64 (pK n.val * 65536)) (wrap64 (pK n.val * 65536))))).foldl vZ 0=wrap64 (pK n.val * 65536):=by decide+kernel
theorem ajH{v:Vw}(d:v.small)(list:Int):(rM v list).foldl vZ 0=v.all list:=by
 obtain⟨f,g,h⟩:=d;unfold rM Hx.Vw.all;split
 .exact ako ⟨v.jU.length,by omega⟩
 .split
  .exact akn ⟨v.kK.length,by omega⟩
  .exact akm ⟨v.jW.length,by omega⟩
theorem ag5{ck:Ck}{kind list:Int}(o:kind≠2){g:List (ji×Int)}{v:Vw}{σ:Int->Int}(z:qG ck g σ)(n:nM v){fs:List (Wd×Ex)}{zs:List (Sz×Val)}{A cs:Int}(h:AP fs zs A cs)(y:∀b∈fs,kX b.2 (ck.add b.1.text kind false)):sU list (qU fs) (oL fs zs) g v σ=sU list fs zs g v σ:=by
 unfold sU;by_cases k:fs.length=0
 .have:fs=[]:=dW k;subst this
  rfl
 .rw[jg k];have f:(rM v list).foldl (λd i=>if l7 fs zs g v σ i then vZ d i else d) 0=(rM v list).foldl (λd i=>if l7 (qU fs) (oL fs zs) g v σ i then vZ d i else d) 0:=Qz λi hi b=>by rw[WC o z n (RZ v list i hi) h y]
  rw[f];by_cases j:(qU fs).length=0
  .have:qU fs=[]:=dW j;rw[jh j,this,<-ajH n.2 list];exact(Qz λi _ b=>by simp[l7]).symm
  .rw[jg j]
structure AV(x:Sx)(ts:Int):Prop where
 ex:∃zs tf cs,AP x.jE zs tf cs/\ts=1+tf/\(x.jw<=1000000->1+(if x.of=3 then 8 else 16) * cs<=x.jw)
 of:x.of=3\/x.of=4
 base:Hx.kQ (jO x.base)=if x.of=3 then 8 else 16
 jw:0<=x.jw/\x.jw<=1000001
structure AU(x:Sx)(ts:Int)(zs:List (Sz×Val)):Prop where
 ex:∃tf cs,AP x.jE zs tf cs/\ts=1+tf/\(x.jw<=1000000->1+(if x.of=3 then 8 else 16) * cs<=x.jw)
 of:x.of=3\/x.of=4
 base:Hx.kQ (jO x.base)=if x.of=3 then 8 else 16
 jw:0<=x.jw/\x.jw<=1000001
theorem AV.told{x:Sx}{f:Int}(h:AV x f):∃d,AU x f d:=by
 obtain⟨d,j,g,i⟩:=h.ex;exact⟨d,⟨j,g,i⟩,h.of,h.base,h.jw⟩
theorem atf{list:Int}{fs:List (Wd×Ex)}{zs:List (Sz×Val)}{g:List (ji×Int)}{v:Vw}{σ:Int->Int}:jK (sU list fs zs g v σ):=by
 have f:∀(l:List Int)(a:Int),jK a->jK (l.foldl (λd i=>if l7 fs zs g v σ i then vZ d i else d) a):=by
  intro l;induction l with
  |nil=>intro a h;exact h
  |cons i l ih=>
   intro a h;rw[bP];apply ih;split
   .exact Kv _ _ _
   .exact h
 unfold sU;split
 .unfold Hx.Vw.all pK;split
  .exact D7 _
  .split<;>exact D7 _
 .exact f _ _ D8
theorem Qx{fs:List (Wd×Ex)}(h:fs.length=0):(qU fs).length=0:=by
 rw[dW h]
 rfl
theorem UJ{x:Sx}{G:Int}{zs:List (Sz×Val)}(h:AU x G zs)(kind:Int)(L:kind≠2)(d:ji):QF (G+2) (wP kind d x) (λB v σ=>outcome v (if d.data.toList==[99,111,117,110,116]then 23 else 24) (sU (jO x.base) x.jE zs B v σ) 0):=by
 obtain⟨tf,U,A,h2,X⟩:=h.ex;obtain⟨W,D,q⟩:=QB A;have y:x.of≠2:=by have:=h.of;omega
 have k:∀g,kX (wP kind d x) g->(wP kind d x).does.look g=g/\∀b∈x.jE,kX b.2 (g.add b.1.text x.of false):=λg j=>by
  obtain⟨Q,z⟩:=RG (QD A) (show(oG x.of x.jE g).en=0 from j);exact⟨Q,λb Z=>(z b Z).1⟩
 have O:=aa9 (P:=kX (wP kind d x)) (W:=W) (D:=D) y d x.base (fs:=x.jE) (zs:=zs) (λg j=>QG A (k g j).2) q.pO q.each q.jL.1 q.wide.1;obtain⟨l1,l2,l3,l4⟩:=Qy A;have o:=aa9 (P:=kX (wP kind d x)) (W:=W) (D:=D) y d x.base (fs:=qU x.jE) (zs:=oL x.jE zs) (λg j=>QC A (k g j).2) (λp E=>q.pO p (II p E)) (λp E=>q.each p (II p E)) l3 q.wide.1;have aa:=KF (jO x.base);have qn:=q.jC;have ql:=q.jL;have qw:=q.wide;have qt:=q.TG;have qc:=q.Qo;have C:∀a b:Int,a<=b->Hx.kQ (jO x.base) * a<=Hx.kQ (jO x.base) * b:=λa b I=>fB I (by omega);have n:∀a:Int,0<=a->0<=Hx.kQ (jO x.base) * a:=λa Y=>Int.mul_nonneg (by omega) Y;refine⟨_,⟨λg j=>(k g j).1,O,?_,λg B v σ j R N=>⟨Wj N.1 _ _ _ atf,λh=>jl h L⟩,λh=>jl h (by show¬(0:Int)=1;decide),λh=>jl h (by show¬(0:Int)=2;decide),λh=>jl h (by show¬(0:Int)=3;decide)⟩,?_⟩
 .refine Mx.eq (f:=λB v σ=>outcome v (if d.data.toList==[99,111,117,110,116]then 23 else 24) (sU (jO x.base) (qU x.jE) (oL x.jE zs) B v σ) 0) (o.grow (z':=⟨2+W,if x.jE.length=0 then 0 else D+1,(if x.jE.length=0 then 1 else 3+Hx.kQ (jO x.base) * (lX zs+2))+1,mZ zs+25⟩) (by show 2+W<=2+W;omega) ?_ ?_ ?_) O.pO λg B v σ j R N=>?_
  .show(if (qU x.jE).length=0 then 0 else D+1)<=if x.jE.length=0 then 0 else D+1;by_cases i:x.jE.length=0
   .rw[jh i,jh (Qx i)];exact aj _
   .rw[jg i];split<;>omega
  .show(if (qU x.jE).length=0 then 1 else 3+Hx.kQ (jO x.base) * (lX (oL x.jE zs)+2))+1<=(if x.jE.length=0 then 1 else 3+Hx.kQ (jO x.base) * (lX zs+2))+1;by_cases i:x.jE.length=0
   .rw[jh i,jh (Qx i)];exact aV _
   .rw[jg i];have m1:=C (lX (oL x.jE zs)+2) (lX zs+2) (by omega);have m2:=n (lX zs+2) (by omega);split<;>omega
  .show mZ (oL x.jE zs)+25<=mZ zs+25;omega
  .rw[ag5 y R N A (k g j).2]
 .refine⟨by omega,⟨by show 0<=2+W;omega,by show 2 * (2+W)<=G+2+1;omega⟩,⟨by show 0<=mZ zs+25;omega,by show mZ zs+25<=20 * (G+2);omega⟩,?_,qx h.jw,λJ=>?_⟩
  .show 0<=(if x.jE.length=0 then 1 else 3+Hx.kQ (jO x.base) * (lX zs+2))+1;have m2:=n (lX zs+2) (by omega);split<;>omega
  .have J:jS [x.jw]<=1000000:=J;have E:=yU h.jw.1 h.jw.2 J;have F:=X (by omega);have K:U<=1000000:=by
    rcases h.of with e|e<;>rw[e]at F<;>simp at F<;>omega
   obtain⟨Q,z⟩:=q.all K;show(if x.jE.length=0 then 1 else 3+Hx.kQ (jO x.base) * (lX zs+2))+1<=40 * jS [x.jw]+1/\((8^(if x.jE.length=0 then 0 else D+1):Nat):Int)<=jS [x.jw]+1;rw[E];have ab:=h.jw;by_cases i:x.jE.length=0
   .rw[jh i,jh i];exact⟨by omega,by show((1:Nat):Int)<=_;omega⟩
   .rw[jg i,jg i,h.base];have M:x.jE≠[]:=λe=>i (by rw[e];rfl);rcases z with z|z
    .exact jl z M
    .have V:((8^(D+1):Nat):Int)=8 * ((8^D:Nat):Int):=by rw[iV,iJ];omega
     rw[V];generalize ((8^D:Nat):Int)=P at *;rcases h.of with e|e<;>rw[e]at F⊢<;>simp at F⊢<;>omega
theorem abg{x:Sx}{g:Int}(h:AV x g)(kind:Int)(f:kind≠2)(d:ji):QX (g+2) (wP kind d x):=by
 obtain⟨i,h⟩:=h.told;obtain⟨z,q⟩:=UJ h kind f d;exact⟨z,_,q⟩
theorem SK{x:Sx}{c:Int}(h:x.round c<=1000000):x.round c=(if x.of=3 then 8 else 16) * (1+c):=by
 unfold Hx.Sx.round at h⊢;unfold kZ at h⊢;simp only[bP,eF]at h⊢;split at h<;>rename_i d<;>simp only[d,dM,cZ]<;>omega
theorem apI{w:List UInt8}{d:Int×Int}{i x:Int}(h:jK d.1)(hi:jK i):jK (oO w d i x).1:=by
 unfold oO;by_cases f:wS w=true
 .rw[jh f];split
  .exact hi
  .exact h
 .rw[jg f];by_cases g:isMax w=true
  .rw[jh g];split
   .exact hi
   .exact h
  .rw[jg g];by_cases j:Fv w=true
   .rw[jh j];exact D7 _
   .rw[jg j];by_cases k:isAny w=true
    .rw[jh k];show jK (bits .or .i64 d.1 x);exact Kv _ _ _
    .rw[jg k];exact h
theorem aps{w:List UInt8}{init list:Int}(hi:jK init){fs:List (Wd×Ex)}{zs:List (Sz×Val)}{t:ji}{f:Val}{g:List (ji×Int)}{v:Vw}{σ:Int->Int}:jK (vC w init list fs zs t f g v σ):=by
 have k:∀(n:Int->Bool)(x:Int->Int)(l:List Int)(a:Int×Int),(∀i∈l,0<=i/\i<64)->jK a.1->jK (l.foldl (λd i=>if n i then oO w d i (x i)else d) a).1:=by
  intro n x l;induction l with
  |nil=>intro a _ h;exact h
  |cons i l ih=>
   intro a o h;rw[bP];refine ih _ (λj y=>o j (aI _ y)) ?_;cases n i with
   |true=>exact apI h (by have:=o i (aW ..);unfold jK;omega)
   |false=>exact h
 unfold vC;exact k (λi=>l7 fs zs g v σ i) (λi=>f (g++[(t,i)]) v σ) _ _ (RZ v list) hi
theorem apv{w:List UInt8}{list:Int}(B:wS w=false)(C:isMax w=false)(D:Fv w=false){fs:List (Wd×Ex)}{zs:List (Sz×Val)}{t:ji}{f:Val}{g:List (ji×Int)}{v:Vw}{σ:Int->Int}(F:isAny w=true->∀i,0<=i/\i<64->f (g++[(t,i)]) v σ=0\/f (g++[(t,i)]) v σ=1):vC w 0 list fs zs t f g v σ=0\/vC w 0 list fs zs t f g v σ=1:=by
 have k:∀(d:Int×Int)(i x:Int),(d.1=0\/d.1=1)->(isAny w=true->x=0\/x=1)->((oO w d i x).1=0\/(oO w d i x).1=1):=λd i x h y=>by
  unfold oO;rw[jg (by rw[B];decide),jg (by rw[C];decide),jg (by rw[D];decide)];by_cases o:isAny w=true
  .rw[jh o];exact(Nr _ _ h (y o)).2.1
  .rw[jg o];exact h
 have z:∀(n:Int->Bool)(x:Int->Int),(isAny w=true->∀i,0<=i/\i<64->x i=0\/x i=1)->∀(l:List Int)(a:Int×Int),(∀i∈l,0<=i/\i<64)->(a.1=0\/a.1=1)->(l.foldl (λd i=>if n i then oO w d i (x i)else d) a).1=0\/(l.foldl (λd i=>if n i then oO w d i (x i)else d) a).1=1:=by
  intro n x y l;induction l with
  |nil=>intro a _ h;exact h
  |cons i l ih=>
   intro a A h;rw[bP];refine ih _ (λj G=>A j (aI _ G)) ?_;cases n i with
   |true=>exact k a i (x i) h λE=>y E i (A i (aW ..))
   |false=>exact h
 unfold vC;exact z (λi=>l7 fs zs g v σ i) (λi=>f (g++[(t,i)]) v σ) F _ _ (RZ v list) (jf rfl)
theorem KO{x:Sx}{X V:Int}{zs:List (Sz×Val)}(h:AU x X zs){e:Ex}{fe:Val}(he:QF V e fe)(kd:Int)(g:ji)(t:Wd)(M:wS g.data.toList=true\/isMax g.data.toList=true->kd=3\/kd=4)(af:kd=2->wS g.data.toList=false/\isMax g.data.toList=false/\Fv g.data.toList=false):QF (X+6+V) (qL kd g x (t,e)) (vC g.data.toList (if kd=3\/kd=4 then -1 else 0) (jO x.base) x.jE zs t.text fe):=by
 obtain⟨tf,cs,G,h2,h3⟩:=h.ex;obtain⟨W,D,q⟩:=QB G;obtain⟨ze,I,J⟩:=he;have z:x.of≠2:=by have:=h.of;omega
 have n:∀j,kX (qL kd g x (t,e)) j->(qL kd g x (t,e)).does.look j=j/\(∀b∈x.jE,kX b.2 (j.add b.1.text x.of false))/\kX e (j.add t.text x.of false)/\e.does.jZ (j.add t.text x.of false).jy=(if g.data.toList==[97,110,121]then 2 else 1):=λj k=>by
  have k:=k;have e0:(qL kd g x (t,e)).does.look j=(oG x.of x.jE j).bracket t.text t.at' e.does e.at' x.of (if g.data.toList==[97,110,121]then 2 else 1):=rfl;obtain⟨Z,b2,b3,b4⟩:=abE I.look k;obtain⟨Y,F⟩:=RG (QD G) b4;rw[Y]at Z b2 b3;rw[e0,Y];exact⟨b3,λb hb=>(F b hb).1,Z,b2⟩
 have w1:=q.wide;have w2:=J.wide;have hE:∀p∈zs,p.1.wide<=max W ze.wide/\p.1.deep<=max D ze.deep:=λp C=>by have:=q.each p C;omega
 have Bj:=aeO (P:=kX (qL kd g x (t,e))) (kind:=x.of) (kd:=kd) (W:=max W ze.wide) (D:=max D ze.deep) z g (x:=x) (zs:=zs) (λj k=>QG G (n j k).2.1) q.pO hE t (e:=e) (ze:=ze) (fe:=fe) I.give.pO (λj k=>I.give.of λwQ e'=>by rw[e'];exact(n j k).2.2.1) ⟨by omega,by omega⟩ (by omega) M;obtain⟨l1,l2,l3,l4⟩:=Qy G;have A:=aeO (P:=kX (qL kd g x (t,e))) (kind:=x.of) (kd:=kd) (W:=max W ze.wide) (D:=max D ze.deep) z g (x:={x with jE:=qU x.jE}) (zs:=oL x.jE zs) (λj k=>QC G (n j k).2.1) (λp C=>q.pO p (II p C)) (λp C=>hE p (II p C)) t (e:={e with does:=e.does.fd.dn}) (ze:=ze) (fe:=fe) I.fold.pO (λj k=>I.fold.of λwQ e'=>by rw[e'];exact(n j k).2.2.1) ⟨by omega,by omega⟩ (by omega) M;have ah:=KF (jO x.base);have qn:=q.jC;have ql:=q.jL;have qt:=q.TG;have qc:=q.Qo;have mt:=J.tok;have ml:=J.jL;have mn:=J.jC;have mc:=J.jw;have N:∀a b:Int,a<=b->Hx.kQ (jO x.base) * a<=Hx.kQ (jO x.base) * b:=λa b ab=>fB ab (by omega);have O:∀a:Int,0<=a->0<=Hx.kQ (jO x.base) * a:=λa L=>Int.mul_nonneg (by omega) L;refine⟨_,⟨λj k=>(n j k).1,Bj,?_,λj K v σ k ht hv=>⟨aps (by split<;>(unfold jK;omega)),λB=>?_⟩,λh=>jl h (by show¬(0:Int)=1;decide),λh=>jl h (by show¬(0:Int)=2;decide),λh=>jl h (by show¬(0:Int)=3;decide)⟩,?_⟩
 .have ad:(qL kd g x (t,e)).does.fd.give=(yR kd g {x with jE:=qU x.jE} (t,{e with does:=e.does.fd.dn})).give:=rfl;rw[ad];refine Mx.eq (f:=vC g.data.toList (if kd=3\/kd=4 then -1 else 0) (jO x.base) (qU x.jE) (oL x.jE zs) t.text fe) (A.grow (z':=⟨3+max W ze.wide,max D ze.deep+1,3+Hx.kQ (jO x.base) * (lX zs+ze.jC+2),mZ zs+ze.jL+24⟩) (by show 3+max W ze.wide<=3+max W ze.wide;omega) (by show max D ze.deep+1<=max D ze.deep+1;omega) ?_ ?_) Bj.pO λj K v σ k ht hv=>?_
  .show 3+Hx.kQ (jO x.base) * (lX (oL x.jE zs)+ze.jC+2)<=3+Hx.kQ (jO x.base) * (lX zs+ze.jC+2);have:=N (lX (oL x.jE zs)+ze.jC+2) (lX zs+ze.jC+2) (by omega);omega
  .show mZ (oL x.jE zs)+ze.jL+24<=mZ zs+ze.jL+24;omega
  .unfold vC;have E:∀y:Int,((rM v (jO x.base)).foldl (λo i=>if l7 (qU x.jE) (oL x.jE zs) K v σ i then oO g.data.toList o i (fe (K++[(t.text,i)]) v σ)else o) (y,0))=((rM v (jO x.base)).foldl (λo i=>if l7 x.jE zs K v σ i then oO g.data.toList o i (fe (K++[(t.text,i)]) v σ)else o) (y,0)):=λy=>Qz λi hi b=>by rw[WC z ht hv (RZ v _ i hi) G (n j k).2.1]
   rw[E]
 .have B:kd=2:=B;obtain⟨n1,n2,n3⟩:=af B;have ae:(if kd=3\/kd=4 then (-1:Int)else 0)=0:=jg (by omega);rw[ae];refine apv n1 n2 n3 λL i hi=>?_;obtain⟨_,_,p3,p4⟩:=n j k;have L:(g.data.toList==[97,110,121])=true:=L;rw[L,jh rfl]at p4;exact(I.ty _ _ v σ p3 (ht.know (by unfold jK;omega) λe=>jl e z) hv).2 p4
 .refine⟨by omega,⟨by show 0<=3+max W ze.wide;omega,by show 2 * (3+max W ze.wide)<=X+6+V+1;omega⟩,⟨by show 0<=mZ zs+ze.jL+24;omega,by show mZ zs+ze.jL+24<=20 * (X+6+V);omega⟩,?_,rO h.jw (tC mc),λhc=>?_⟩
  .show 0<=3+Hx.kQ (jO x.base) * (lX zs+ze.jC+2);have:=O (lX zs+ze.jC+2) (by omega);omega
  .have Q:=tC (x:=x) mc;have hc:jS [x.jw,x.round e.jw]<=1000000:=hc;have C:=Ap h.jw.1 h.jw.2 Q.1 Q.2 hc;have ai:=h.jw;have R:=h3 (by omega);have U:=SK (x:=x) (c:=e.jw) (by omega);have ac:cs<=1000000:=by
    rcases h.of with e|e<;>rw[e]at R<;>simp at R<;>omega
   have Kr:e.jw<=1000000:=by
    rcases h.of with e|e<;>rw[e]at U<;>simp at U<;>omega
   obtain⟨Y,F⟩:=q.all ac;obtain⟨Z,b2⟩:=J.all Kr;have ag:(0:Int)<=x.jE.length:=by omega
   show 3+Hx.kQ (jO x.base) * (lX zs+ze.jC+2)<=40 * jS [x.jw,x.round e.jw]+1/\((8^(max D ze.deep+1):Nat):Int)<=jS [x.jw,x.round e.jw]+1;rw[C,h.base];have e8:∀d:Nat,((8^(d+1):Nat):Int)=8 * ((8^d:Nat):Int):=λd=>by rw[iV,iJ];omega
   have hD:((8^max D ze.deep:Nat):Int)<=max cs (e.jw+1):=by
    rcases gX D ze.deep with hh|hh
    .rw[gG hh];omega
    .rw[gV hh];rcases F with F|F
     .have:=(q.none F).1;subst this;have aa:(8^0:Nat)=1:=rfl;rw[aa];omega
     .omega
   rw[e8];generalize ((8^max D ze.deep:Nat):Int)=P at *;rcases h.of with e|e<;>rw[e]at R U⊢<;>simp at R U⊢<;>omega
theorem W9{x:Sx}{j i:Int}(h:AV x j){e:Ex}(k:QX i e)(kd:Int)(d:ji)(t:Wd)(g:wS d.data.toList=true\/isMax d.data.toList=true->kd=3\/kd=4)(f:kd=2->wS d.data.toList=false/\isMax d.data.toList=false/\Fv d.data.toList=false):QX (j+6+i) (qL kd d x (t,e)):=by
 obtain⟨B,h⟩:=h.told;obtain⟨y,A,n,o⟩:=k;obtain⟨z,q⟩:=KO h ⟨y,n,o⟩ kd d t g f;exact⟨z,_,q⟩
section
def pV(s:ji)(p q:Ps)(t:Int):Prop:=p.Ok s->q.Ok s/\(q.en=0->p.en=0/\p.k.at'+t<=q.k.at')
variable {s:ji}{p q r:Ps}{t t':Int}
theorem pV.trans(h:pV s p q t)(k:pV s q r t'):pV s p r (t+t'):=λo=>by
 obtain⟨j,g⟩:=h o;obtain⟨n,i⟩:=k j;refine⟨n,λe=>?_⟩;obtain⟨d,y⟩:=i e;obtain⟨f,z⟩:=g d;exact⟨f,by omega⟩
theorem pV.less(h:pV s p q t)(f:t'<=t):pV s p q t':=λd=>⟨(h d).1,λe=>⟨((h d).2 e).1,by have:=((h d).2 e).2;omega⟩⟩
theorem rZ(f:1<=p.k.text.size):pV s p (p.next s) 1:=λd=>⟨d.next,λe=>⟨e,by have:=Ho d;omega⟩⟩
theorem J3(p:Ps):p.fail.en≠0:=by
 unfold Hx.Ps.fail;simp only;split
 .decide
 .assumption
theorem NK(t:Int):pV s p p.fail t:=λd=>⟨d.fail,λe=>jl e (J3 p)⟩
theorem EU{u:List UInt8}(d:u≠[]):pV s p (p.expect s u) 1:=by
 unfold Hx.Ps.expect;split
 .rename_i h;exact rZ (qP d h)
 .exact NK 1
theorem NP{u:List UInt8}(f:u≠[]):pV s p (p.ku s u) 1:=by
 unfold Hx.Ps.ku;split
 .exact NK 1
 .exactλd=>⟨⟨(d.expect u).tok,Wi _,(d.expect u).kinds⟩,(EU f d).2⟩
theorem NJ{u:List UInt8}(f:u≠[]):pV s p (p.close s u) 1:=λd=>⟨d.close u,(EU f d).2⟩
theorem NM:pV s p (p.name s).2 1:=λd=>by
 unfold Hx.Ps.name;split
 .rename_i h;exact rZ (d.kinds.name h) d
 .exact NK 1 d
def tK(s:ji)(ex:Ps->Ex×Ps):Prop:=∀p,p.Ok s->∃t,QX t (ex p).1/\pV s p (ex p).2 t
theorem RV:QX 1 rJ:=ah5 0 0 0 (je rfl) (by decide) false
variable {ex:Ps->Ex×Ps}
theorem abH(h:tK s ex)(d:p.Ok s):∃t,QX t (Fg s ex p).1/\pV s p (Fg s ex p).2 (t+2):=by
 obtain⟨t,f,g⟩:=h (p.ku s [40]) (d.ku [40]);exact⟨t,f,(((NP (by simp)).trans g).trans (NJ (by simp))).less (by omega)⟩
theorem Qd(h:tK s ex)(f:p.Ok s):∃t,QX t (qm s ex p).1.2/\pV s p (qm s ex p).2 (t+4):=by
 have d:=(f.ku [40]).name;obtain⟨t,g,i⟩:=h ((((p.ku s [40]).name s).2).expect s [58]) (d.expect [58]);exact⟨t,g,((((NP (by simp)).trans NM).trans (EU (by simp))).trans (i.trans (NJ (by simp)))).less (by omega)⟩
theorem AU.add{x:Sx}{A:Int}{zs:List (Sz×Val)}(h:AU x A zs){d:Wd}{e:Ex}{f:Val}(E:QF t e f):∃z,AU (x.add (d,e)) (A+(6+t)) (zs++[(z,f)]):=by
 obtain⟨J,k,B,K,C⟩:=h.ex;obtain⟨z,G,y⟩:=E;have I:=y.jw;have g:=tC (x:=x) I;have j:=h.jw;refine⟨z,⟨J+(6+t),k+(1+e.jw),Vt B G y,by omega,λi=>?_⟩,h.of,h.base,xZ _ (by simp;exact⟨j,g⟩)⟩;have i:kZ [x.jw,x.round e.jw]<=1000000:=i;have F:=FP (a:=x.jw) g.1 i;have o:=C (by omega);have D:=SK (x:=x) (c:=e.jw) (by omega);show 1+(if x.of=3 then 8 else 16) * (k+(1+e.jw))<=kZ [x.jw,x.round e.jw];rw[F,D];rcases h.of with n|n<;>rw[n]at o⊢<;>simp at o⊢<;>omega
theorem FI(a d:Int)(t:ji)(g:d=3\/d=4)(f:Hx.kQ (jO t)=if d=3 then 8 else 16):AU ⟨a,1,t,d,[]⟩ 1 []:=
 ⟨⟨0,0,⟨rfl,rfl,rfl⟩,by omega,λ_=>by show 1+(if d=3 then 8 else 16) * (0:Int)<=1;omega⟩,g,f,by show(0:Int)<=1/\(1:Int)<=1000001;decide⟩
theorem AV.add{x:Sx}{A:Int}(h:AV x A){d:Wd}{e:Ex}(E:QX t e):AV (x.add (d,e)) (A+(6+t)):=by
 obtain⟨K,J,k,B,L,C⟩:=h.ex;obtain⟨z,f,G,y⟩:=E;have I:=y.jw;have g:=tC (x:=x) I;have j:=h.jw;refine⟨⟨K++[(z,f)],J+(6+t),k+(1+e.jw),Vt B G y,by omega,λi=>?_⟩,h.of,h.base,xZ _ (by simp;exact⟨j,g⟩)⟩;have i:kZ [x.jw,x.round e.jw]<=1000000:=i;have F:=FP (a:=x.jw) g.1 i;have o:=C (by omega);have D:=SK (x:=x) (c:=e.jw) (by omega);show 1+(if x.of=3 then 8 else 16) * (k+(1+e.jw))<=kZ [x.jw,x.round e.jw];rw[F,D];rcases h.of with n|n<;>rw[n]at o⊢<;>simp at o⊢<;>omega
theorem agZ(h:tK s ex):∀(n:Nat)(x:Sx)(d:Int)(g p:Ps),AV x d->pV s g p d->g.Ok s->∃f,AV (qY s ex n x p).1.1 f/\pV s g (qY s ex n x p).2 (if (qY s ex n x p).1.2 then f+1 else f)
 |0,x,d,g,p,hx,hp,ok=>⟨d,hx,hp⟩
 |n+1,x,d,g,p,hx,hp,ok=>by
  unfold qY;have j:=(hp ok).1;split
  .rename_i z;have i:=hp.trans (rZ (qP (by simp) z));split
   .rename_i A;have y:=i.trans (rZ (qP (by simp) A));obtain⟨t,k,o⟩:=Qd h j.next.next;exact agZ h n _ (d+(6+t)) g _ (hx.add k) ((y.trans o).less (by omega)) ok
   .exact⟨d,hx,i⟩
  .exact⟨d,hx,hp⟩
theorem ate{u:List UInt8}{g:Int}(h:setOf u=some g):u≠[]/\Hx.kQ (if u==[70,82,69,83,72]then 1 else if u==[65,71,65,73,78]then 2 else 0)=if g=3 then 8 else 16:=by
 unfold setOf at h;split at h
 .rename_i f;have d:u=[82,79,65,68,83]:=by simpa using f
  subst d;cases h
  decide
 .split at h
  .rename_i f;have d:u=[70,82,69,83,72]\/u=[65,71,65,73,78]:=by simpa using f
   cases h;rcases d with d|d<;>subst d<;>decide
  .cases h
theorem SV(h:tK s ex)(n:Nat)(o:p.Ok s):(∃d,AV (nB s ex n p).1.1 d/\pV s p (nB s ex n p).2 (if (nB s ex n p).1.2 then d+1 else d))\/((nB s ex n p).1.2=false/\(nB s ex n p).2=p.fail):=by
 unfold nB;cases f:setOf p.k.text.data.toList with
 |none=>exact je ⟨rfl,rfl⟩
 |some of=>
  left;obtain⟨g,i⟩:=ate f;have j:AV ⟨p.k.at',1,p.k.text,of,[]⟩ 1:=⟨⟨[],0,0,⟨rfl,rfl,rfl⟩,by omega,λ_=>by show 1+(if of=3 then 8 else 16) * (0:Int)<=1;omega⟩,SX f,i,by show(0:Int)<=1/\(1:Int)<=1000001;decide⟩;exact agZ h n _ 1 p (p.next s) j (rZ (LQ g rfl)) o
theorem arO(h:tK s ex)(n:Nat)(y:p.Ok s):∃t,QX t (Ar s ex n p).1/\pV s p (Ar s ex n p).2 t:=by
 unfold Ar;split
 .rename_i E;rcases SV h n y with⟨i,f,d⟩|⟨f,_⟩
  .rw[jh E]at d;generalize (nB s ex n p).1.1=x at *;generalize (nB s ex n p).2=q at *;have g:=(d y).1;have F:=f.of;unfold FD;by_cases B:q.is [99,111,117,110,116]=true
   .rw[jh B];exact⟨i+2,abg f 1 (by decide) _,(d.trans (rZ (qP (by simp) B))).less (by omega)⟩
   .rw[jg B];by_cases C:q.is [102,105,114,115,116]=true
    .rw[jh C];exact⟨i+2,abg f x.of (by omega) _,(d.trans (rZ (qP (by simp) C))).less (by omega)⟩
    .rw[jg C];by_cases D:(q.is [109,105,110]||q.is [109,97,120])=true
     .rw[jh D];obtain⟨t,j,o⟩:=Qd h g.next;have K:1<=q.k.text.size:=by
       rcases Bool.or_eq_true_iff.1 D with c|c
       .exact qP (by simp) c
       .exact qP (by simp) c
      exact⟨i+6+t,W9 f j x.of q.k.text (qm s ex (q.next s)).1.1 (λ_=>F) (λe=>by omega),((d.trans (rZ K)).trans o).less (by omega)⟩
     .rw[jg D];by_cases z:q.is [115,117,109]=true
      .rw[jh z];obtain⟨t,j,o⟩:=Qd h g.next;have J:=Kw z;exact⟨i+6+t,W9 f j 1 q.k.text (qm s ex (q.next s)).1.1 (λe=>by rw[J]at e;rcases e with e|e<;>exact jl e (by decide)) (λe=>by omega),((d.trans (rZ (qP (by simp) z))).trans o).less (by omega)⟩
      .rw[jg z];by_cases A:q.is [97,110,121]=true
       .rw[jh A];obtain⟨t,j,o⟩:=Qd h g.next;have I:=Kw A;exact⟨i+6+t,W9 f j 2 q.k.text (qm s ex (q.next s)).1.1 (λe=>by rw[I]at e;rcases e with e|e<;>exact jl e (by decide)) (λ_=>by rw[I];decide),((d.trans (rZ (qP (by simp) A))).trans o).less (by omega)⟩
       .rw[jg A];exact⟨1,RV,λG=>⟨g.fail,λe=>jl e (J3 q)⟩⟩
  .rw[f]at E;cases E
 .have g:(nB s ex n p).2.Ok s:=by
   rcases SV h n y with⟨i,f,d⟩|⟨_,d⟩
   .exact(d y).1
   .rw[d];exact y.fail
  exact⟨1,RV,λG=>⟨g.fail,λe=>jl e (J3 _)⟩⟩
theorem ajW(h:tK s ex)(n:Nat)(d:p.Ok s):∃t,QX t (tX s ex n p).1/\pV s p (tX s ex n p).2 t:=by
 unfold tX;by_cases g:p.k.kind=3
 .rw[jh g];obtain⟨f,D,F⟩:=d.kinds.number g;refine⟨1,ap5 _ _ ?_,rZ f⟩;cases E:Lib.atoi p.k.text.data.toList with
  |none=>exact D8
  |some m=>
   have:=Lib.atoi_bound E (by rw[eX];exact D);show jK m;unfold jK;omega
 rw[jg g];by_cases i:p.k.kind=4
 .rw[jh i];obtain⟨x,f,D,F⟩:=d.kinds.register i;refine⟨1,ash _ _ ?_,rZ (LQ (by simp) f)⟩;rw[f];show 0<=((x.toNat:Int)-48)/\((x.toNat:Int)-48)<8;omega
 rw[jg i];by_cases j:p.k.kind=2
 .rw[jh j];exact⟨1,avp _ _,rZ (d.kinds.name j)⟩
 rw[jg j];by_cases o:(p.is [116,114,117,101]||p.is [102,97,108,115,101])=true
 .rw[jh o];refine⟨1,ah5 _ 1 2 (jf rfl) (by decide) _,rZ ?_⟩;rcases Bool.or_eq_true_iff.1 o with c|c
  .exact qP (by simp) c
  .exact qP (by simp) c
 rw[jg o];by_cases B:p.is [40]=true
 .rw[jh B];obtain⟨t,z,A⟩:=abH h d;exact⟨t,avC z _,A.less (by omega)⟩
 rw[jg B];by_cases y:p.is [105,115,110,111,110,101]=true
 .rw[jh y];obtain⟨t,z,A⟩:=abH h d.next;exact⟨t+1,anM z _,((rZ (qP (by simp) y)).trans A).less (by omega)⟩
 rw[jg y];by_cases C:(setOf p.k.text.data.toList).isSome=true
 .rw[jh C];exact arO h n d
 rw[jg C];exact⟨1,RV,NK 1⟩
theorem UM(h:tK s ex)(a:Int):∀(n:Nat)(e:Ex)(t:Int)(d p:Ps),QX t e->pV s d p t->d.Ok s->∃t',QX t' (tY s ex a n e p).1/\pV s d (tY s ex a n e p).2 t'
 |0,e,t,d,p,he,hp,ok=>⟨t,he,hp⟩
 |n+1,e,t,d,p,he,hp,ok=>by
  unfold tY;have g:=(hp ok).1;split
  .rename_i j;simp only;have i:=hp.trans (rZ (qP (by simp) j));have f:=i.trans NM;split
   .obtain⟨y,k,o⟩:=h (((p.next s).name s).2.ku s [40]) (((g.next).name).ku [40]);exact UM h a n _ (t+1+y) d _ (aqj he k a) (((f.trans (NP (by simp))).trans (o.trans (NJ (by simp)))).less (by omega)) ok
   .exact UM h a n _ (t+1) d _ (arp he a _) (f.less (by omega)) ok
  .exact⟨t,he,hp⟩
theorem abp(h:tK s ex)(n:Nat)(d:p.Ok s):∃t,QX t (Cm s ex n p).1/\pV s p (Cm s ex n p).2 t:=by
 obtain⟨t,f,g⟩:=ajW h n d;exact UM h _ n _ t p _ f g d
theorem Xc(h:tK s ex)(n:Nat):∀(m:Nat)(p:Ps),p.Ok s->∃t,QX t (wX s ex n m p).1/\pV s p (wX s ex n m p).2 t
 |0,p,ok=>abp h n ok
 |m+1,p,ok=>by
  unfold wX;split
  .rename_i d;obtain⟨t,f,g⟩:=Xc h n m (p.next s) ok.next;exact⟨t+1,apE f _ _ (Kw d),((rZ (qP (by simp) d)).trans g).less (by omega)⟩
  .split
   .rename_i d;obtain⟨t,f,g⟩:=Xc h n m (p.next s) ok.next;exact⟨t+1,apY f _ _ (Kw d),((rZ (qP (by simp) d)).trans g).less (by omega)⟩
   .exact abp h n ok
theorem aoA{u:ji}{d:Int}(j:d<=5)(h:pX u.data.toList=d):1<=u.size:=by
 by_cases f:u.size=0
 .have g:=f;have i:u=⟨#[]⟩:=iZ (fO g);rw[i]at h;have:pX (⟨#[]⟩:ji).data.toList=6:=rfl;omega
 .omega
theorem afC{d:Ps->Ex×Ps}(i:tK s d)(g a:Int)(j:g<=5):∀(n:Nat)(e:Ex)(t:Int)(f p:Ps),QX t e->pV s f p t->f.Ok s->∃t',QX t' (wH s d g a n e p).1/\pV s f (wH s d g a n e p).2 t'
 |0,e,t,f,p,he,hp,ok=>⟨t,he,hp⟩
 |n+1,e,t,f,p,he,hp,ok=>by
  unfold wH;have z:=(hp ok).1;split
  .rename_i A;simp only;obtain⟨y,B,C⟩:=i (p.next s) z.next;have h:=((hp.trans (rZ (aoA j A))).trans C);have o:=avc he B a p.k.text;split
   .exact⟨t+1+y,o,h⟩
   .exact afC i g a j n _ (t+1+y) f _ o h ok
  .exact⟨t,he,hp⟩
theorem Xz(h:tK s ex)(n:Nat):∀(l:Nat),tK s (Bz s ex n l)
 |0,p,ok=>Xc h n n p ok
 |l+1,p,ok=>by
  obtain⟨t,d,f⟩:=Xz h n l p ok;exact afC (Xz h n l) _ _ (by omega) n _ t p _ d f ok
theorem Ve(s:ji):∀d:Nat,tK s (lG s d)
 |0,_,_=>⟨1,RV,NK 1⟩
 |d+1,p,ok=>Xz (Ve s d) _ 6 p ok
end
end
end Go.Proofs.YthllhabjfchgiaaGreatDoor
