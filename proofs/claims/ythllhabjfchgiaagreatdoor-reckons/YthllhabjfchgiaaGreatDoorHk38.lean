import Derived.Test.YthllhabjfchgiaaGreatDoorHk37
import Derived.Lib.AtoiBound
set_option maxRecDepth 100000
set_option maxHeartbeats 8000000
set_option linter.unusedSimpArgs false
namespace Go.Proofs.YthllhabjfchgiaaGreatDoor
section
open Go.RowKit Hx
section
variable {w w' w1 w2 w3 wr:jk}{lo hi m b H S:Nat}{u v:jm}{e l r:Ex}{a:Int}{T:jo}{c:Co}{x:Sx}
def yN(fs fs':List (Wd×Ex)):Prop:=fs.map (λb=>(b.1.text,b.2.does.give))=fs'.map (λb=>(b.1.text,b.2.does.give))
theorem ack{t t':ji}{d d':Dn}(h1:t=t')(h2:d.give=d'.give)(one:Int):c.inside t d one=c.inside t' d' one:=by unfold Co.inside;rw[h1,h2]
theorem akw{b b':Wd×Ex}(h1:b.1.text=b'.1.text)(h2:b.2.does.give=b'.2.does.give)(one:Int):xW one c b=xW one c b':=by
 unfold xW;rw[ack h1 h2]
theorem aa6:∀{fs fs':List (Wd×Ex)},yN fs fs'->∀(one:Int)(c:Co),Co.jE one fs c=Co.jE one fs' c
 |[],[],_,_,_=>rfl
 |[],_::_,h,_,_=>by simp[yN]at h
 |_::_,[],h,_,_=>by simp[yN]at h
 |b::fs,b'::fs',h,one,c=>by
  simp only[yN,dL,iy,Prod.mk.injEq]at h;obtain⟨⟨h1,h2⟩,h3⟩:=h;have e:∀(b:Wd×Ex)(fs:List (Wd×Ex))(c:Co),Co.jE one (b::fs) c=Co.jE one fs (xW one c b):=λ_ _ _=>rfl;rw[e,e,akw h1 h2,aa6 h3]
theorem yN.length{fs fs':List (Wd×Ex)}(h:yN fs fs'):fs.length=fs'.length:=by
 have:=congrArg List.length h;simpa using this
theorem aeg{fs fs':List (Wd×Ex)}(h:yN fs fs')(list:Int):c.jZ list fs=c.jZ list fs':=by
 unfold Co.jZ;rw[aa6 h]
theorem aa4{fs fs':List (Wd×Ex)}(h:yN fs fs')(list:Int):c.nk list fs=c.nk list fs':=by
 unfold Co.nk;rw[h.length,aeg h]
def qU(fs:List (Wd×Ex)):List (Wd×Ex):=(fs.filter λb=>!(b.2.does.fd.lq true)).map λb=>(b.1,{b.2 with does:=b.2.does.fd.dn})
theorem abd{fs:List (Wd×Ex)}{i:Nat}{b:Wd×Ex}(h:fs[i]? =some b):qU (fs.take (i+1))=qU (fs.take i)++(if b.2.does.fd.lq true then []else [(b.1,{b.2 with does:=b.2.does.fd.dn})]):=by
 have h1:fs.take (i+1)=fs.take i++[b]:=by rw[fU,h];rfl
 rw[h1];unfold qU;rw[List.filter_append,dF]
 congr 1
 cases hb:b.2.does.fd.lq true<;>simp[hb]
def zC(lo m H:Nat)(w:jk)(own:Option Nat)(Q:jk->Nat->Nat->Prop):Prop:=
 ∃l1 m1 H1 h1,lo<=l1/\m1<=m/\H<=H1/\h1<=w.heap.size/\(∀g,own=some g->g<H1\/h1<=g)/\∀w',qm w w' l1 m1 H1 h1->Q w' l1 h1
theorem zC.later{Q:jk->Nat->Nat->Prop}{own own':Option Nat}{m':Nat}(h:zC lo m H w own Q)(hm:m<=m')(hs:w.heap.size<=w'.heap.size)(h1:∀k,lo<=k->k<m->w'.heap[k]? =w.heap[k]?)(h2:∀k,H<=k->k<w.heap.size->some k≠own->w'.heap[k]? =w.heap[k]?)
 (ho:own'=own\/∃g,own'=some g/\w.heap.size<=g):zC lo m' H w' own' Q:=by
 obtain⟨l1,m1,H1,e1,k1,k2,k3,k4,k5,k6⟩:=h;refine⟨l1,m1,H1,e1,k1,by omega,k3,by omega,λg hg=>?_,λw2 hw=>k6 w2 λk hk=>?_⟩
 .rcases ho with rfl|⟨g',hg',hl⟩
  .exact k5 g hg
  .rw[hg']at hg;cases hg;exact je (by omega)
 .refine(hw k hk).trans ?_;rcases hk with hk|hk
  .exact h1 k (by omega) (by omega)
  .refine h2 k (by omega) (by omega) λek=>?_;have:=k5 k ek.symm;omega
theorem aes{base sz n:Nat}{E:jo}{xs:List jm}(h:w.ownsRow base E sz v n xs)(hk:∀g,v.ownBlock=some g->w'.heap[g]? =w.heap[g]?):w'.ownsRow base E sz v n xs:=by
 refine⟨h.1,?_⟩;rcases h.2 with hn|⟨g,cap,cur,rfl,hb,hg,rest⟩
 .exact .inl hn
 .exact .inr ⟨g,cap,cur,rfl,hb,(hk g rfl).trans hg,rest⟩
theorem aep{base sz n g cap:Nat}{E:jo}{xs:List jm}(h:w.ownsRow base E sz (.slice (some (Ad g 0)) n cap) n xs):∃cur,base<=g/\w.heap[g]? =some (.cells cur E)/\∀(j:Nat)(u:jm),xs[j]? =some u->cur[j]? =some u:=by
 rcases h.2 with⟨h1,_⟩|⟨g',cap',cur,hv,hb,hg,_,_,_,ht⟩
 .cases h1
 .cases hv;refine⟨cur,hb,hg,λj u hu=>?_⟩;rw[<-ht,iW]at hu;split at hu
  .simpa using hu
  .simp at hu
structure vH(x:Sx)(S H m:Nat)(wr:jk)(k:Nat)(kv:jm)(fs:List (Wd×Ex))(cells:List jm):Prop where
 row:wr.ownsRow H 361 3 kv fs.length cells
 each:∀(j:Nat)(b:Wd×Ex),fs[j]? =some b->∃u,cells[j * 3]? =some (.string b.1.text)/\cells[j * 3+1]? =some (Im b.1.at')/\cells[j * 3+2]? =some u/\zC (S+1) m H wr kv.ownBlock λw lo hi=>b.2.here b.2.at' w lo hi u
 all:∀b∈fs,kC b.2
 same:yN fs (qU (x.jE.take k))
 sum:(fs.map λb=>1+b.2.jw).sum<=((x.jE.take k).map λb=>1+b.2.jw).sum
 len:fs.length<=k
theorem vH.nil(x:Sx)(S H m:Nat)(w:jk):vH x S H m w 0 (Nl) [] []:=by
 refine⟨fK _ _ _ _,λj b hb=>by simp at hb,λb hb=>by simp at hb,?_,by simp,aj _⟩;simp[yN,qU]
theorem vH.pF{kv:jm}{fs:List (Wd×Ex)}{cells:List jm}{k m':Nat}(h:vH x S H m w k kv fs cells)(hm:m<=m')(hs:w.heap.size<=w'.heap.size)(h1:∀j,S<j->j<m->w'.heap[j]? =w.heap[j]?)(h2:∀j,H<=j->j<w.heap.size->w'.heap[j]? =w.heap[j]?):vH x S H m' w' k kv fs cells:=by
 refine⟨aes h.row λg hg=>h2 g (h.row.lt g hg).1 (h.row.lt g hg).2,λj b hb=>?_,h.all,h.same,h.sum,h.len⟩;obtain⟨u,e1,e2,e3,e4⟩:=h.each j b hb;exact⟨u,e1,e2,e3,e4.later hm hs (λk k1 k2=>h1 k (by omega) k2) (λk k1 k2 _=>h2 k k1 k2) (jf rfl)⟩
theorem vH.skip{kv:jm}{fs:List (Wd×Ex)}{cells:List jm}{k:Nat}{b:Wd×Ex}(h:vH x S H m w k kv fs cells)(hb:x.jE[k]? =some b)(hc:0<=b.2.jw)(ht:b.2.does.fd.lq true=true):vH x S H m w (k+1) kv fs cells:=by
 refine⟨h.row,h.each,h.all,?_,?_,by have:=h.len;omega⟩
 .rw[abd hb,ht];simpa using h.same
 .have h1:x.jE.take (k+1)=x.jE.take k++[b]:=by rw[fU,hb];rfl
  rw[h1,dF,List.sum_append];have:=h.sum;simp only[dL,iM,gY,List.sum_nil];omega
theorem vH.add{kv:jm}{fs:List (Wd×Ex)}{cells:List jm}{k gg cap Hn:Nat}{b:Wd×Ex}{e':Ex}{u:jm}(h:vH x S H m w k kv fs cells)(hb:x.jE[k]? =some b)(ht:b.2.does.fd.lq true=false)
 (hg:w.grownBy w' kv.ownBlock)(hH:H<=w.heap.size)(hmH:m<=H)(hown:w'.ownsRow H 361 3 (.slice (some (Ad gg 0)) (fs.length+1) cap) (fs.length+1) (cells++[.string b.1.text,Im b.1.at',u]))(hat:kv.ownBlock=some gg\/gg=Hn)(hn:w.heap.size<=Hn)
 (he:kC e')(hge:e'.does.give=b.2.does.fd.give)(hce:e'.jw<=b.2.jw)(hh:zC (S+1) m H w kv.ownBlock λw lo hi=>e'.here e'.at' w lo hi u):vH x S H m w' (k+1) (.slice (some (Ad gg 0)) (fs.length+1) cap) (fs++[(b.1,e')]) (cells++[.string b.1.text,Im b.1.at',u]):=by
 have hcl:cells.length=fs.length * 3:=h.row.1;have MC:∀{Q:jk->Nat->Nat->Prop},zC (S+1) m H w kv.ownBlock Q->zC (S+1) m H w' (Value.slice (some (Ad gg 0)) (fs.length+1) cap).ownBlock Q:=λhq=>by
  refine hq.later (aj _) hg.size (λk k1 k2=>hg.block k (by omega) λe=>?_) (λk k1 k2 k3=>hg.block k k2 k3) ?_
  .have:=(h.row.lt k e.symm).1;omega
  .rcases hat with h1|h1
   .exact jf (by rw[h1];rfl)
   .exact je ⟨gg,rfl,by omega⟩
 refine⟨by rw[aA];exact hown,λj d hd=>?_,λd hd=>?_,?_,?_,?_⟩
 .rcases dG j fs.length with hj|hj
  .rw[aT hj]at hd;obtain⟨u',e1,e2,e3,e4⟩:=h.each j d hd;refine⟨u',?_,?_,?_,MC e4⟩
   .rw[aT (by omega)];exact e1
   .rw[aT (by omega)];exact e2
   .rw[aT (by omega)];exact e3
  .rw[bW hj]at hd;have hj0:j-fs.length=0:=by
    rcases gJ (j-fs.length)with h0|h0
    .exact h0
    .rw[bV (by simp;omega)]at hd;cases hd
   rw[hj0]at hd;simp only[dw,bJ]at hd;subst hd;have hje:j=fs.length:=by omega
   subst hje;refine⟨u,?_,?_,?_,MC hh⟩
   .rw[bW (by omega),show fs.length * 3-cells.length=0 by omega];rfl
   .rw[bW (by omega),show fs.length * 3+1-cells.length=1 by omega];rfl
   .rw[bW (by omega),show fs.length * 3+2-cells.length=2 by omega];rfl
 .rcases List.mem_append.1 hd with hd|hd
  .exact h.all d hd
  .rw[cO.1 hd];exact he
 .rw[abd hb,ht];have:=h.same;simp only[yN,dF]at this⊢;rw[this];simp only[aH,cZ,dL,iM,List.append_cancel_left_eq,iy,Prod.mk.injEq,true_and,and_true];exact hge
 .have h1:x.jE.take (k+1)=x.jE.take k++[b]:=by rw[fU,hb];rfl
  rw[h1,dF,List.sum_append,dF,List.sum_append];have:=h.sum;simp only[dL,iM,gY,List.sum_nil];omega
 .have:=h.len;simp only[aA,aF,bg];omega
def RD(x:Sx)(w:jk)(lo m H hi S:Nat):Prop:=
 ∃fs,yN fs x.fold/\(∀b∈fs,kC b.2)/\(fs.map λb=>1+b.2.jw).sum<=(x.jE.map λb=>1+b.2.jw).sum/\fs.length<=x.jE.length/\lo<=S/\S<m/\
  ∀w',qm w w' lo m H hi->Bd {x with jE:=fs} w' lo hi (Pt S 0)
theorem vH.done{kv fv:jm}{fs:List (Wd×Ex)}{cells:List jm}(h:vH x S H m wr x.jE.length kv fs cells)(h1:lo<=S)(h2:S<hi)(hm:m<=hi)(hH:hi<=H)(hs:H<=wr.heap.size)(hb:wr.heap[S]? =some (.cells #[Im x.at',Im x.jw,.string x.base,Im x.of,fv] 348)):
 RD x (wr.setCell (Ad S 4) kv) lo hi H (wr.setCell (Ad S 4) kv).heap.size S:=by
 have g:=nK wr S 4 kv;have hb2:(wr.setCell (Ad S 4) kv).heap[S]? =some (.cells #[Im x.at',Im x.jw,.string x.base,Im x.of,kv] 348):=aK _ _ _ _ _ _ hb;have hfull:x.jE.take x.jE.length=x.jE:=eU (aj _);have hsame:=h.same;have hsum:=h.sum;rw[hfull]at hsame hsum;refine⟨fs,hsame,h.all,hsum,h.len,h1,h2,λw' ha=>⟨S,kv,rfl,h1,by have:=g.size;omega,(ha S (jf ⟨h1,h2⟩)).trans hb2,?_⟩⟩;have hag:∀j,j≠S->(lo<=j/\j<hi)\/(H<=j/\j<wr.heap.size)->w'.heap[j]? =wr.heap[j]? :=λj hj hk=>(ha j (by have:=g.size;omega)).trans (qZ j hj);obtain⟨ka,kc,hkv⟩:=V5 h.row;cases hka:ka with
 |none=>
  subst hkv hka;refine jf ?_;rcases h.row.2 with⟨h1,h2⟩|⟨_,_,_,h1,_⟩
  .exact⟨dW h2,h1⟩
  .cases h1
 |some ad=>
  subst hkv hka;have hrow:=h.row;obtain⟨gb,hgb⟩:∃gb,ad=(Ad gb 0):=by
   rcases hrow.2 with⟨h1,_⟩|⟨g',_,_,h1,_⟩
   .cases h1
   .cases h1;exact⟨g',rfl⟩
  subst hgb;obtain⟨cur,c1,c2,c3⟩:=aep hrow;have hlt:=(hrow.lt gb rfl).2;refine je ⟨gb,kc,cur,rfl,by omega,by have:=g.size;omega,(hag gb (by omega) (je ⟨c1,hlt⟩)).trans c2,λk d hd=>?_⟩;obtain⟨u,e1,e2,e3,l1,m1,H1,y1,k1,k2,k3,k4,k5,k6⟩:=h.each k d hd;refine⟨u,c3 _ _ e1,c3 _ _ e2,c3 _ _ e3,?_⟩;have hgd:=h.all d (bT hd);have hd2:=k6 w' λj hj=>hag j (by omega) (by omega);exact(hgd.ok.law _).wide _ _ _ _ _ _ hd2 (by omega) (by have:=g.size;omega)
end
def Ac:List (Wd×Ex)->List (Sz×Val)->Int->Int->Prop
 |[],zs,ts,cs=>zs=[]/\ts=0/\cs=0
 |b::bs,zs,ts,cs=>∃z f zs' t ts' cs',zs=(z,f)::zs'/\MX b.2 z f/\BG t b.2 z/\ts=6+t+ts'/\cs=1+b.2.jw+cs'/\Ac bs zs' ts' cs'
theorem abh:∀{bs:List (Wd×Ex)}{zs:List (Sz×Val)}{ts cs:Int}{b:Wd×Ex}{z:Sz}{f:Val}{t:Int},Ac bs zs ts cs->MX b.2 z f->BG t b.2 z->Ac (bs++[b]) (zs++[(z,f)]) (ts+(6+t)) (cs+(1+b.2.jw))
 |[],_,_,_,b,z,f,t,⟨h1,h2,h3⟩,hm,hs=>by
  subst h1 h2 h3;exact⟨z,f,[],t,0,0,rfl,hm,hs,by omega,by omega,rfl,rfl,rfl⟩
 |c::bs,_,_,_,b,z,f,t,⟨z',f',zs',t',ts',cs',h1,h2,h3,h4,h5,h6⟩,hm,hs=>by
  subst h1 h4 h5;exact⟨z',f',zs'++[(z,f)],t',ts'+(6+t),cs'+(1+b.2.jw),rfl,h2,h3,by omega,by omega,abh h6 hm hs⟩
structure aho(fs:List (Wd×Ex))(zs:List (Sz×Val))(tf cs W:Int)(D:Nat):Prop where
 Rk:0<=tf
 OG:0<=cs
 jL:0<=mX zs/\mX zs<=20 * tf
 jC:0<=lW zs
 some:fs≠[]->6<=tf/\1<=cs
 pJ:∀p∈zs,uy p.2
 wide:0<=W/\2 * W<=tf
 each:∀p∈zs,p.1.wide<=W/\p.1.deep<=D
 all:cs<=1000000->lW zs+38 * (fs.length:Int)<=40 * cs/\(fs=[]\/((8^D:Nat):Int)<=cs)
 none:fs=[]->D=0/\zs=[]
theorem OX:∀{fs:List (Wd×Ex)}{zs:List (Sz×Val)}{tf cs:Int},Ac fs zs tf cs->∃W D,aho fs zs tf cs W D
 |[],_,_,_,⟨h1,h2,h3⟩=>by
  subst h1 h2 h3;exact⟨0,0,⟨by omega,by omega,by simp[mX],by simp[lW],λh=>jl rfl h,by simp,by omega,by simp,λ_=>⟨by simp[lW],jf rfl⟩,λ_=>⟨rfl,rfl⟩⟩⟩
 |b::bs,_,_,_,⟨z,f,zs,t,ts,cs,h1,h2,h3,h4,h5,h6⟩=>by
  subst h1 h4 h5;obtain⟨W,D,q⟩:=OX h6;have a1:=q.Rk;have a2:=q.OG;have a3:=q.jL;have a4:=q.jC;have a5:=q.wide;have b1:=h3.tok;have b2:=h3.wide;have b3:=h3.jL;have b4:=h3.jC;have b5:=h3.jw;have e1:mX ((z,f)::zs)=z.jL+3+mX zs:=by simp[mX]
  have e2:lW ((z,f)::zs)=z.jC+1+lW zs:=by simp[lW]
  refine⟨max W z.wide,max D z.deep,⟨by omega,by omega,by omega,by omega,λ_=>⟨by omega,by omega⟩,λp hp=>?_,by omega,λp hp=>?_,λhc=>?_,λh=>by cases h⟩⟩
  .rcases dh.1 hp with rfl|hp
   .exact h2.give.pJ
   .exact q.pJ p hp
  .rcases dh.1 hp with rfl|hp
   .exact⟨by show z.wide<=_;omega,by show z.deep<=_;omega⟩
   .have:=q.each p hp;omega
  .obtain⟨c1,c2⟩:=q.all (by omega);obtain⟨d1,d2⟩:=h3.all (by omega);have hlen:((b::bs).length:Int)=bs.length+1:=by simp
   refine⟨by omega,je ?_⟩;rcases gX D z.deep with hh|hh
   .rw[gG hh];omega
   .rw[gV hh];rcases c2 with c2|c2
    .have:=(q.none c2).1;subst this;have:z.deep=0:=by omega
     rw[this]at d2;have h80:(8^0:Nat)=1:=rfl;rw[h80]at d2⊢;omega
    .omega
theorem aae{c:Ck}{t:ji}{ta ea one want:Int}{e:Ex}(hl:∀ck,lg e ck->e.does.look ck=ck)(h:(c.bracket t ta e.does ea one want).en=0):lg e (c.add t one false)/\e.does.jW (c.add t one false).jy=want/\c.bracket t ta e.does ea one want=c/\c.en=0:=by
 have h:=h;have e0:c.bracket t ta e.does ea one want=((e.does.look ((c.nG t ta).add t one false)).want (e.does.jW ((c.nG t ta).add t one false).jy) ea want).cut c.jy.length:=rfl;obtain⟨q1,q2,q3⟩:=Aa h;have q4:=hl _ q3;have q5:(c.nG t ta).en=0:=by
  have q3':=q3;rw[q4]at q3';exact q3'
 obtain⟨_,q6,q7⟩:=Vp q5;rw[q6]at q1 q3 q4 q2;refine⟨q3,q1,?_,q7⟩;rw[e0,q6,q2,q4];show(⟨(c.jy++[(⟨t,one,false⟩:Kn)]).take c.jy.length,c.en,c.ea⟩:Ck)=c;rw[iK]
theorem Qd{kind:Int}:∀{fs:List (Wd×Ex)}{ck:Ck},(∀b∈fs,∀ck,lg b.2 ck->b.2.does.look ck=ck)->(oz kind fs ck).en=0->oz kind fs ck=ck/\∀b∈fs,lg b.2 (ck.add b.1.text kind false)/\b.2.does.jW (ck.add b.1.text kind false).jy=2
 |[],ck,_,_=>⟨rfl,by simp⟩
 |b::fs,ck,hl,h=>by
  have e:oz kind (b::fs) ck=oz kind fs (ck.bracket b.1.text b.1.at' b.2.does b.2.at' kind 2):=rfl;rw[e]at h⊢;obtain⟨q1,q2⟩:=Qd (λc hc=>hl c (aI _ hc)) h;rw[q1]at h;obtain⟨r1,r2,r3,r4⟩:=aae (hl b (aW ..)) h;rw[q1];rw[r3]at q2⊢;refine⟨rfl,λc hc=>?_⟩;rcases dh.1 hc with rfl|hc
  .exact⟨r1,r2⟩
  .exact q2 c hc
theorem OZ:∀{fs:List (Wd×Ex)}{zs:List (Sz×Val)}{tf cs:Int},Ac fs zs tf cs->∀b∈fs,∀ck,lg b.2 ck->b.2.does.look ck=ck
 |[],_,_,_,_,b,hb,_,_=>by simp at hb
 |_::_,_,_,_,⟨_,_,_,_,_,_,_,h2,_,_,_,h6⟩,b,hb,ck,hk=>by
  rcases dh.1 hb with rfl|hb
  .exact h2.look ck hk
  .exact OZ h6 b hb ck hk
theorem O4{ck:Ck}{kind:Int}:∀{fs:List (Wd×Ex)}{zs:List (Sz×Val)}{tf cs:Int},Ac fs zs tf cs->(∀b∈fs,lg b.2 (ck.add b.1.text kind false))->zq ck kind fs zs
 |[],_,_,_,⟨h1,_,_⟩,_=>h1
 |b::bs,_,_,_,⟨z,f,zs,t,ts,cs,h1,h2,h3,h4,h5,h6⟩,hl=>
  ⟨z,f,zs,h1,h2.give.of λwI e=>by rw[e];exact hl b (aW ..),O4 h6 λc hc=>hl c (aI _ hc)⟩
def oN:List (Wd×Ex)->List (Sz×Val)->List (Sz×Val)
 |b::bs,p::zs=>if b.2.does.fd.lq true then oN bs zs else p::oN bs zs
 |_,_=>[]
theorem abb(b:Wd×Ex)(bs:List (Wd×Ex)):qU (b::bs)=if b.2.does.fd.lq true then qU bs else (b.1,{b.2 with does:=b.2.does.fd.dn})::qU bs:=by
 unfold qU;rw[List.filter_cons];cases b.2.does.fd.lq true<;>simp
theorem OY{ck:Ck}{kind:Int}:∀{fs:List (Wd×Ex)}{zs:List (Sz×Val)}{tf cs:Int},Ac fs zs tf cs->(∀b∈fs,lg b.2 (ck.add b.1.text kind false))->zq ck kind (qU fs) (oN fs zs)
 |[],_,_,_,⟨h1,_,_⟩,_=>by
  subst h1
  rfl
 |b::bs,_,_,_,⟨z,f,zs,t,ts,cs,h1,h2,h3,h4,h5,h6⟩,hl=>by
  subst h1;have ih:=OY h6 λc hc=>hl c (aI _ hc);rw[abb];unfold oN;split
  .exact ih
  .exact⟨z,f,oN bs zs,rfl,h2.fold.of λwI e=>by rw[e];exact hl b (aW ..),ih⟩
theorem GX:∀{fs:List (Wd×Ex)}{zs:List (Sz×Val)},∀p∈oN fs zs,p∈zs
 |[],_,p,hp=>by simp[oN]at hp
 |_::_,[],p,hp=>by simp[oN]at hp
 |b::bs,q::zs,p,hp=>by
  unfold oN at hp;split at hp
  .exact aI _ (GX p hp)
  .rcases dh.1 hp with rfl|hp
   .exact aW ..
   .exact aI _ (GX p hp)
theorem OU:∀{fs:List (Wd×Ex)}{zs:List (Sz×Val)}{tf cs:Int},Ac fs zs tf cs->lW (oN fs zs)<=lW zs/\mX (oN fs zs)<=mX zs/\0<=mX (oN fs zs)/\0<=lW (oN fs zs)
 |[],_,_,_,⟨h1,_,_⟩=>by
  subst h1;simp[oN,lW,mX]
 |b::bs,_,_,_,⟨z,f,zs,t,ts,cs,h1,h2,h3,h4,h5,h6⟩=>by
  subst h1;obtain⟨q1,q2,q3,q4⟩:=OU h6;have b3:=h3.jL;have b4:=h3.jC;have e1:mX ((z,f)::zs)=z.jL+3+mX zs:=by simp[mX]
  have e2:lW ((z,f)::zs)=z.jC+1+lW zs:=by simp[lW]
  unfold oN;split
  .omega
  .have e3:mX ((z,f)::oN bs zs)=z.jL+3+mX (oN bs zs):=by simp[mX]
   have e4:lW ((z,f)::oN bs zs)=z.jC+1+lW (oN bs zs):=by simp[lW]
   omega
theorem qC.know{ck:Ck}{e:List (ji×Int)}{σ:Int->Int}(h:qC ck e σ){t:ji}{kind i:Int}{iv:Bool}(hi:jJ i)(hk:kind=2->i=0\/i=1):qC (ck.add t kind iv) (e++[(t,i)]) σ:=by
 have hl:ck.jy.length=e.length:=by have:=congrArg List.length h.jy;simpa using this
 refine⟨h.jF,?_,λj k n hj hn=>?_⟩
 .show(ck.jy++[(⟨t,kind,iv⟩:Kn)]).map (λk=>k.name.data.toList)=_;rw[dF,dF,h.jy]
  rfl
 .have hj:(ck.jy++[(⟨t,kind,iv⟩:Kn)])[j]? =some k:=hj;rcases dG j ck.jy.length with hlt|hge
  .rw[aT hlt]at hj;rw[aT (by omega)]at hn;exact h.vals j k n hj hn
  .rw[bW hge]at hj;rw[bW (by omega)]at hn;rcases gJ (j-ck.jy.length)with h0|h0
   .rw[h0]at hj;rw[show j-e.length=0 by omega]at hn;simp only[dw,bJ]at hj hn;subst hj hn;exact⟨hi,hk⟩
   .rw[bV (by simp;omega)]at hj;cases hj
theorem UM{ck:Ck}{kind:Int}(hk:kind≠2){en:List (ji×Int)}{v:Vw}{σ:Int->Int}(ht:qC ck en σ)(hv:nM v){i:Int}(hi:0<=i/\i<64):∀{fs:List (Wd×Ex)}{zs:List (Sz×Val)}{tf cs:Int},Ac fs zs tf cs->(∀b∈fs,lg b.2 (ck.add b.1.text kind false))->nI (qU fs) (oN fs zs) en v σ i=nI fs zs en v σ i
 |[],_,_,_,_,_=>rfl
 |b::bs,_,_,_,⟨z,f,zs,t,ts,cs,h1,h2,h3,h4,h5,h6⟩,hl=>by
  subst h1;have ih:=UM hk ht hv hi h6 λc hc=>hl c (aI _ hc);rw[abb];unfold oN;by_cases hT:b.2.does.fd.lq true=true
  .rw[jh hT,jh hT];have hval:=(zO h2 hT (hl b (aW ..))).1 (en++[(b.1.text,i)]) v σ (ht.know (by unfold jJ;omega) λe=>jl e hk) hv;simp only[dM]at hval;have:nI (b::bs) ((z,f)::zs) en v σ i=nI bs zs en v σ i:=by simp[nI,hval]
   rw[this];exact ih
  .rw[jg hT,jg hT];simp only[nI];rw[ih]
theorem OV{α β:Type}{g h:β->α->β}:∀{l:List α}{a:β},(∀i∈l,∀b,g b i=h b i)->l.foldl g a=l.foldl h a
 |[],_,_=>rfl
 |i::l,a,hh=>by
  rw[bP,bP,hh i (aW ..)];exact OV λj hj=>hh j (aI _ hj)
theorem SN:∀(n:Nat)(x:Int),0<=x->x<18446744073709551616->∀i∈BM n x,0<=i/\i<64
 |0,_,_,_,i,h=>by simp[BM]at h
 |n+1,x,h0,h1,i,h=>by
  unfold BM at h;split at h
  .simp at h
  .rename_i hx;rcases dh.1 h with rfl|h
   .exact Xg (by omega) h1
   .have:=Lu (x:=x) (by omega) h1;exact SN n _ this.1 (by omega) i h
theorem Qq(v:Vw)(list:Int):∀i∈Ce v list,0<=i/\i<64:=by
 have hu:=EL (bits .and .i64 (v.all list) (v.all list));exact SN _ _ hu.1 hu.2
theorem aji:∀n:Fin 9,(bitsOf (pY (bits .and .i64 (tN n.val) (tN n.val)))).foldl vP 0=tN n.val:=by decide+kernel
theorem ajh:∀n:Fin 17,(bitsOf (pY (bits .and .i64 (tN n.val) (tN n.val)))).foldl vP 0=tN n.val:=by decide+kernel
theorem ajg:∀n:Fin 17,(bitsOf (pY (bits .and .i64 (wrap64 (tN n.val * 65536)) (wrap64 (tN n.val * 65536))))).foldl vP 0=wrap64 (tN n.val * 65536):=by decide+kernel
theorem ah4{v:Vw}(hv:v.small)(list:Int):(Ce v list).foldl vP 0=v.all list:=by
 obtain⟨h1,h2,h3⟩:=hv;unfold Ce Hx.Vw.all;split
 .exact aji ⟨v.pW.length,by omega⟩
 .split
  .exact ajh ⟨v.qK.length,by omega⟩
  .exact ajg ⟨v.qJ.length,by omega⟩
theorem afS{ck:Ck}{kind list:Int}(hk:kind≠2){en:List (ji×Int)}{v:Vw}{σ:Int->Int}(ht:qC ck en σ)(hv:nM v){fs:List (Wd×Ex)}{zs:List (Sz×Val)}{tf cs:Int}(h:Ac fs zs tf cs)(hl:∀b∈fs,lg b.2 (ck.add b.1.text kind false)):uN list (qU fs) (oN fs zs) en v σ=uN list fs zs en v σ:=by
 unfold uN;by_cases h0:fs.length=0
 .have:fs=[]:=dW h0;subst this
  rfl
 .rw[jg h0];have hsame:(Ce v list).foldl (λacc i=>if nI fs zs en v σ i then vP acc i else acc) 0=(Ce v list).foldl (λacc i=>if nI (qU fs) (oN fs zs) en v σ i then vP acc i else acc) 0:=OV λi hi b=>by rw[UM hk ht hv (Qq v list i hi) h hl]
  rw[hsame];by_cases h1:(qU fs).length=0
  .have:qU fs=[]:=dW h1;rw[jh h1,this,<-ah4 hv.2 list];exact(OV λi _ b=>by simp[nI]).symm
  .rw[jg h1]
structure Af(x:Sx)(ts:Int):Prop where
 ex:∃zs tf cs,Ac x.jE zs tf cs/\ts=1+tf/\(x.jw<=1000000->1+(if x.of=3 then 8 else 16) * cs<=x.jw)
 of:x.of=3\/x.of=4
 base:Hx.kR (jP x.base)=if x.of=3 then 8 else 16
 jw:0<=x.jw/\x.jw<=1000001
structure Oc(x:Sx)(ts:Int)(zs:List (Sz×Val)):Prop where
 ex:∃tf cs,Ac x.jE zs tf cs/\ts=1+tf/\(x.jw<=1000000->1+(if x.of=3 then 8 else 16) * cs<=x.jw)
 of:x.of=3\/x.of=4
 base:Hx.kR (jP x.base)=if x.of=3 then 8 else 16
 jw:0<=x.jw/\x.jw<=1000001
theorem Af.told{x:Sx}{ts:Int}(h:Af x ts):∃zs,Oc x ts zs:=by
 obtain⟨zs,tf,cs,h1⟩:=h.ex;exact⟨zs,⟨tf,cs,h1⟩,h.of,h.base,h.jw⟩
theorem asi{list:Int}{fs:List (Wd×Ex)}{zs:List (Sz×Val)}{en:List (ji×Int)}{v:Vw}{σ:Int->Int}:jJ (uN list fs zs en v σ):=by
 have key:∀(l:List Int)(a:Int),jJ a->jJ (l.foldl (λacc i=>if nI fs zs en v σ i then vP acc i else acc) a):=by
  intro l;induction l with
  |nil=>intro a h;exact h
  |cons i l ih=>
   intro a h;rw[bP];apply ih;split
   .exact Js _ _ _
   .exact h
 unfold uN;split
 .unfold Hx.Vw.all tN;split
  .exact Dv _
  .split<;>exact Dv _
 .exact key _ _ Dw
theorem OT{fs:List (Wd×Ex)}(h:fs.length=0):(qU fs).length=0:=by
 rw[dW h]
 rfl
theorem aie{x:Sx}{ts:Int}{zs:List (Sz×Val)}(h:Oc x ts zs)(kind:Int)(hk2:kind≠2)(what:ji):QF (ts+2) (xR kind what x) (λen v σ=>outcome v (if what.data.toList==[99,111,117,110,116]then 23 else 24) (uN (jP x.base) x.jE zs en v σ) 0):=by
 obtain⟨tf,cs,h1,h2,h3⟩:=h.ex;obtain⟨W,D,q⟩:=OX h1;have hof:x.of≠2:=by have:=h.of;omega
 have hlk:∀ck,lg (xR kind what x) ck->(xR kind what x).does.look ck=ck/\∀b∈x.jE,lg b.2 (ck.add b.1.text x.of false):=λck hk=>by
  obtain⟨a1,a2⟩:=Qd (OZ h1) (show(oz x.of x.jE ck).en=0 from hk);exact⟨a1,λb hb=>(a2 b hb).1⟩
 have Az:=ZG (P:=lg (xR kind what x)) (W:=W) (D:=D) hof what x.base (fs:=x.jE) (zs:=zs) (λck hk=>O4 h1 (hlk ck hk).2) q.pJ q.each q.jL.1 q.wide.1;obtain⟨l1,l2,l3,l4⟩:=OU h1;have hfold:=ZG (P:=lg (xR kind what x)) (W:=W) (D:=D) hof what x.base (fs:=qU x.jE) (zs:=oN x.jE zs) (λck hk=>OY h1 (hlk ck hk).2) (λp hp=>q.pJ p (GX p hp)) (λp hp=>q.each p (GX p hp)) l3 q.wide.1;have hls:=Jy (jP x.base);have qn:=q.jC;have ql:=q.jL;have qw:=q.wide;have qt:=q.Rk;have qc:=q.OG;have hmul:∀a b:Int,a<=b->Hx.kR (jP x.base) * a<=Hx.kR (jP x.base) * b:=λa b hab=>fB hab (by omega);have hpos:∀a:Int,0<=a->0<=Hx.kR (jP x.base) * a:=λa ha=>Int.mul_nonneg (by omega) ha;refine⟨_,⟨λck hk=>(hlk ck hk).1,Az,?_,λck en v σ hk ht hv=>⟨Uz hv.1 _ _ _ asi,λh=>jl h hk2⟩,λh=>jl h (by show¬(0:Int)=1;decide),λh=>jl h (by show¬(0:Int)=2;decide),λh=>jl h (by show¬(0:Int)=3;decide)⟩,?_⟩
 .refine Mx.eq (f:=λen v σ=>outcome v (if what.data.toList==[99,111,117,110,116]then 23 else 24) (uN (jP x.base) (qU x.jE) (oN x.jE zs) en v σ) 0) (hfold.grow (z':=⟨2+W,if x.jE.length=0 then 0 else D+1,(if x.jE.length=0 then 1 else 3+Hx.kR (jP x.base) * (lW zs+2))+1,mX zs+25⟩) (by show 2+W<=2+W;omega) ?_ ?_ ?_) Az.pJ λck en v σ hk ht hv=>?_
  .show(if (qU x.jE).length=0 then 0 else D+1)<=if x.jE.length=0 then 0 else D+1;by_cases h0:x.jE.length=0
   .rw[jh h0,jh (OT h0)];exact aj _
   .rw[jg h0];split<;>omega
  .show(if (qU x.jE).length=0 then 1 else 3+Hx.kR (jP x.base) * (lW (oN x.jE zs)+2))+1<=(if x.jE.length=0 then 1 else 3+Hx.kR (jP x.base) * (lW zs+2))+1;by_cases h0:x.jE.length=0
   .rw[jh h0,jh (OT h0)];exact aV _
   .rw[jg h0];have m1:=hmul (lW (oN x.jE zs)+2) (lW zs+2) (by omega);have m2:=hpos (lW zs+2) (by omega);split<;>omega
  .show mX (oN x.jE zs)+25<=mX zs+25;omega
  .rw[afS hof ht hv h1 (hlk ck hk).2]
 .refine⟨by omega,⟨by show 0<=2+W;omega,by show 2 * (2+W)<=ts+2+1;omega⟩,⟨by show 0<=mX zs+25;omega,by show mX zs+25<=20 * (ts+2);omega⟩,?_,qj h.jw,λhc=>?_⟩
  .show 0<=(if x.jE.length=0 then 1 else 3+Hx.kR (jP x.base) * (lW zs+2))+1;have m2:=hpos (lW zs+2) (by omega);split<;>omega
  .have hc:jR [x.jw]<=1000000:=hc;have hp:=yG h.jw.1 h.jw.2 hc;have h4:=h3 (by omega);have hcs:cs<=1000000:=by
    rcases h.of with e|e<;>rw[e]at h4<;>simp at h4<;>omega
   obtain⟨a1,a2⟩:=q.all hcs;show(if x.jE.length=0 then 1 else 3+Hx.kR (jP x.base) * (lW zs+2))+1<=40 * jR [x.jw]+1/\((8^(if x.jE.length=0 then 0 else D+1):Nat):Int)<=jR [x.jw]+1;rw[hp];have hxc:=h.jw;by_cases h0:x.jE.length=0
   .rw[jh h0,jh h0];exact⟨by omega,by show((1:Nat):Int)<=_;omega⟩
   .rw[jg h0,jg h0,h.base];have hne:x.jE≠[]:=λe=>h0 (by rw[e];rfl);rcases a2 with a2|a2
    .exact jl a2 hne
    .have e8:((8^(D+1):Nat):Int)=8 * ((8^D:Nat):Int):=by rw[iV,iJ];omega
     rw[e8];generalize ((8^D:Nat):Int)=P at *;rcases h.of with e|e<;>rw[e]at h4⊢<;>simp at h4⊢<;>omega
theorem ZL{x:Sx}{ts:Int}(h:Af x ts)(kind:Int)(hk2:kind≠2)(what:ji):QX (ts+2) (xR kind what x):=by
 obtain⟨zs,h⟩:=h.told;obtain⟨z,q⟩:=aie h kind hk2 what;exact⟨z,_,q⟩
theorem V4{x:Sx}{c:Int}(h:x.round c<=1000000):x.round c=(if x.of=3 then 8 else 16) * (1+c):=by
 unfold Hx.Sx.round at h⊢;unfold lu at h⊢;simp only[bP,eF]at h⊢;split at h<;>rename_i hh<;>simp only[hh,dM,cZ]<;>omega
theorem aoe{w:List UInt8}{acc:Int×Int}{i x:Int}(h:jJ acc.1)(hi:jJ i):jJ (qH w acc i x).1:=by
 unfold qH;by_cases h1:yY w=true
 .rw[jh h1];split
  .exact hi
  .exact h
 .rw[jg h1];by_cases h2:isMax w=true
  .rw[jh h2];split
   .exact hi
   .exact h
  .rw[jg h2];by_cases h3:Hl w=true
   .rw[jh h3];exact Dv _
   .rw[jg h3];by_cases h4:isAny w=true
    .rw[jh h4];show jJ (bits .or .i64 acc.1 x);exact Js _ _ _
    .rw[jg h4];exact h
theorem an1{w:List UInt8}{init list:Int}(hi:jJ init){fs:List (Wd×Ex)}{zs:List (Sz×Val)}{t:ji}{f:Val}{en:List (ji×Int)}{v:Vw}{σ:Int->Int}:jJ (AQ w init list fs zs t f en v σ):=by
 have key:∀(kp:Int->Bool)(x:Int->Int)(l:List Int)(a:Int×Int),(∀i∈l,0<=i/\i<64)->jJ a.1->jJ (l.foldl (λacc i=>if kp i then qH w acc i (x i)else acc) a).1:=by
  intro kp x l;induction l with
  |nil=>intro a _ h;exact h
  |cons i l ih=>
   intro a hl h;rw[bP];refine ih _ (λj hj=>hl j (aI _ hj)) ?_;cases kp i with
   |true=>exact aoe h (by have:=hl i (aW ..);unfold jJ;omega)
   |false=>exact h
 unfold AQ;exact key (λi=>nI fs zs en v σ i) (λi=>f (en++[(t,i)]) v σ) _ _ (Qq v list) hi
theorem an2{w:List UInt8}{list:Int}(h1:yY w=false)(h2:isMax w=false)(h3:Hl w=false){fs:List (Wd×Ex)}{zs:List (Sz×Val)}{t:ji}{f:Val}{en:List (ji×Int)}{v:Vw}{σ:Int->Int}(hf:isAny w=true->∀i,0<=i/\i<64->f (en++[(t,i)]) v σ=0\/f (en++[(t,i)]) v σ=1):AQ w 0 list fs zs t f en v σ=0\/AQ w 0 list fs zs t f en v σ=1:=by
 have step:∀(acc:Int×Int)(i x:Int),(acc.1=0\/acc.1=1)->(isAny w=true->x=0\/x=1)->((qH w acc i x).1=0\/(qH w acc i x).1=1):=λacc i x h hx=>by
  unfold qH;rw[jg (by rw[h1];decide),jg (by rw[h2];decide),jg (by rw[h3];decide)];by_cases h4:isAny w=true
  .rw[jh h4];exact(Lc _ _ h (hx h4)).2.1
  .rw[jg h4];exact h
 have key:∀(kp:Int->Bool)(x:Int->Int),(isAny w=true->∀i,0<=i/\i<64->x i=0\/x i=1)->∀(l:List Int)(a:Int×Int),(∀i∈l,0<=i/\i<64)->(a.1=0\/a.1=1)->(l.foldl (λacc i=>if kp i then qH w acc i (x i)else acc) a).1=0\/(l.foldl (λacc i=>if kp i then qH w acc i (x i)else acc) a).1=1:=by
  intro kp x hx l;induction l with
  |nil=>intro a _ h;exact h
  |cons i l ih=>
   intro a hl h;rw[bP];refine ih _ (λj hj=>hl j (aI _ hj)) ?_;cases kp i with
   |true=>exact step a i (x i) h λha=>hx ha i (hl i (aW ..))
   |false=>exact h
 unfold AQ;exact key (λi=>nI fs zs en v σ i) (λi=>f (en++[(t,i)]) v σ) hf _ _ (Qq v list) (jf rfl)
theorem an8{x:Sx}{ts te:Int}{zs:List (Sz×Val)}(h:Oc x ts zs){e:Ex}{fe:Val}(he:QF te e fe)(kd:Int)(what:ji)(t:Wd)(hmk:yY what.data.toList=true\/isMax what.data.toList=true->kd=3\/kd=4)(hk2:kd=2->yY what.data.toList=false/\isMax what.data.toList=false/\Hl what.data.toList=false):QF (ts+6+te) (uY kd what x (t,e)) (AQ what.data.toList (if kd=3\/kd=4 then -1 else 0) (jP x.base) x.jE zs t.text fe):=by
 obtain⟨tf,cs,h1,h2,h3⟩:=h.ex;obtain⟨W,D,q⟩:=OX h1;obtain⟨ze,m1,m2⟩:=he;have hof:x.of≠2:=by have:=h.of;omega
 have hlk:∀ck,lg (uY kd what x (t,e)) ck->(uY kd what x (t,e)).does.look ck=ck/\(∀b∈x.jE,lg b.2 (ck.add b.1.text x.of false))/\lg e (ck.add t.text x.of false)/\e.does.jW (ck.add t.text x.of false).jy=(if what.data.toList==[97,110,121]then 2 else 1):=λck hk=>by
  have hk:=hk;have e0:(uY kd what x (t,e)).does.look ck=(oz x.of x.jE ck).bracket t.text t.at' e.does e.at' x.of (if what.data.toList==[97,110,121]then 2 else 1):=rfl;obtain⟨b1,b2,b3,b4⟩:=aae m1.look hk;obtain⟨a1,a2⟩:=Qd (OZ h1) b4;rw[a1]at b1 b2 b3;rw[e0,a1];exact⟨b3,λb hb=>(a2 b hb).1,b1,b2⟩
 have w1:=q.wide;have w2:=m2.wide;have hE:∀p∈zs,p.1.wide<=max W ze.wide/\p.1.deep<=max D ze.deep:=λp hp=>by have:=q.each p hp;omega
 have Az:=adw (P:=lg (uY kd what x (t,e))) (kind:=x.of) (kd:=kd) (W:=max W ze.wide) (D:=max D ze.deep) hof what (x:=x) (zs:=zs) (λck hk=>O4 h1 (hlk ck hk).2.1) q.pJ hE t (e:=e) (ze:=ze) (fe:=fe) m1.give.pJ (λck hk=>m1.give.of λwI e'=>by rw[e'];exact(hlk ck hk).2.2.1) ⟨by omega,by omega⟩ (by omega) hmk;obtain⟨l1,l2,l3,l4⟩:=OU h1;have hfold:=adw (P:=lg (uY kd what x (t,e))) (kind:=x.of) (kd:=kd) (W:=max W ze.wide) (D:=max D ze.deep) hof what (x:={x with jE:=qU x.jE}) (zs:=oN x.jE zs) (λck hk=>OY h1 (hlk ck hk).2.1) (λp hp=>q.pJ p (GX p hp)) (λp hp=>hE p (GX p hp)) t (e:={e with does:=e.does.fd.dn}) (ze:=ze) (fe:=fe) m1.fold.pJ (λck hk=>m1.fold.of λwI e'=>by rw[e'];exact(hlk ck hk).2.2.1) ⟨by omega,by omega⟩ (by omega) hmk;have hls:=Jy (jP x.base);have qn:=q.jC;have ql:=q.jL;have qt:=q.Rk;have qc:=q.OG;have mt:=m2.tok;have ml:=m2.jL;have mn:=m2.jC;have mc:=m2.jw;have hmul:∀a b:Int,a<=b->Hx.kR (jP x.base) * a<=Hx.kR (jP x.base) * b:=λa b hab=>fB hab (by omega);have hpos:∀a:Int,0<=a->0<=Hx.kR (jP x.base) * a:=λa ha=>Int.mul_nonneg (by omega) ha;refine⟨_,⟨λck hk=>(hlk ck hk).1,Az,?_,λck en v σ hk ht hv=>⟨an1 (by split<;>(unfold jJ;omega)),λhkk=>?_⟩,λh=>jl h (by show¬(0:Int)=1;decide),λh=>jl h (by show¬(0:Int)=2;decide),λh=>jl h (by show¬(0:Int)=3;decide)⟩,?_⟩
 .have hfd:(uY kd what x (t,e)).does.fd.give=(yE kd what {x with jE:=qU x.jE} (t,{e with does:=e.does.fd.dn})).give:=rfl;rw[hfd];refine Mx.eq (f:=AQ what.data.toList (if kd=3\/kd=4 then -1 else 0) (jP x.base) (qU x.jE) (oN x.jE zs) t.text fe) (hfold.grow (z':=⟨3+max W ze.wide,max D ze.deep+1,3+Hx.kR (jP x.base) * (lW zs+ze.jC+2),mX zs+ze.jL+24⟩) (by show 3+max W ze.wide<=3+max W ze.wide;omega) (by show max D ze.deep+1<=max D ze.deep+1;omega) ?_ ?_) Az.pJ λck en v σ hk ht hv=>?_
  .show 3+Hx.kR (jP x.base) * (lW (oN x.jE zs)+ze.jC+2)<=3+Hx.kR (jP x.base) * (lW zs+ze.jC+2);have:=hmul (lW (oN x.jE zs)+ze.jC+2) (lW zs+ze.jC+2) (by omega);omega
  .show mX (oN x.jE zs)+ze.jL+24<=mX zs+ze.jL+24;omega
  .unfold AQ;have hsame:∀init:Int,((Ce v (jP x.base)).foldl (λacc i=>if nI (qU x.jE) (oN x.jE zs) en v σ i then qH what.data.toList acc i (fe (en++[(t.text,i)]) v σ)else acc) (init,0))=((Ce v (jP x.base)).foldl (λacc i=>if nI x.jE zs en v σ i then qH what.data.toList acc i (fe (en++[(t.text,i)]) v σ)else acc) (init,0)):=λinit=>OV λi hi b=>by rw[UM hof ht hv (Qq v _ i hi) h1 (hlk ck hk).2.1]
   rw[hsame]
 .have hkk:kd=2:=hkk;obtain⟨n1,n2,n3⟩:=hk2 hkk;have hin:(if kd=3\/kd=4 then (-1:Int)else 0)=0:=jg (by omega);rw[hin];refine an2 n1 n2 n3 λha i hi=>?_;obtain⟨_,_,p3,p4⟩:=hlk ck hk;have ha:(what.data.toList==[97,110,121])=true:=ha;rw[ha,jh rfl]at p4;exact(m1.ty _ _ v σ p3 (ht.know (by unfold jJ;omega) λe=>jl e hof) hv).2 p4
 .refine⟨by omega,⟨by show 0<=3+max W ze.wide;omega,by show 2 * (3+max W ze.wide)<=ts+6+te+1;omega⟩,⟨by show 0<=mX zs+ze.jL+24;omega,by show mX zs+ze.jL+24<=20 * (ts+6+te);omega⟩,?_,rG h.jw (uo mc),λhc=>?_⟩
  .show 0<=3+Hx.kR (jP x.base) * (lW zs+ze.jC+2);have:=hpos (lW zs+ze.jC+2) (by omega);omega
  .have hrb:=uo (x:=x) mc;have hc:jR [x.jw,x.round e.jw]<=1000000:=hc;have hp:=zU h.jw.1 h.jw.2 hrb.1 hrb.2 hc;have hxc:=h.jw;have h4:=h3 (by omega);have h5:=V4 (x:=x) (c:=e.jw) (by omega);have hcs:cs<=1000000:=by
    rcases h.of with e|e<;>rw[e]at h4<;>simp at h4<;>omega
   have Jq:e.jw<=1000000:=by
    rcases h.of with e|e<;>rw[e]at h5<;>simp at h5<;>omega
   obtain⟨a1,a2⟩:=q.all hcs;obtain⟨b1,b2⟩:=m2.all Jq;have hlen:(0:Int)<=x.jE.length:=by omega
   show 3+Hx.kR (jP x.base) * (lW zs+ze.jC+2)<=40 * jR [x.jw,x.round e.jw]+1/\((8^(max D ze.deep+1):Nat):Int)<=jR [x.jw,x.round e.jw]+1;rw[hp,h.base];have e8:∀d:Nat,((8^(d+1):Nat):Int)=8 * ((8^d:Nat):Int):=λd=>by rw[iV,iJ];omega
   have hD:((8^max D ze.deep:Nat):Int)<=max cs (e.jw+1):=by
    rcases gX D ze.deep with hh|hh
    .rw[gG hh];omega
    .rw[gV hh];rcases a2 with a2|a2
     .have:=(q.none a2).1;subst this;have h80:(8^0:Nat)=1:=rfl;rw[h80];omega
     .omega
   rw[e8];generalize ((8^max D ze.deep:Nat):Int)=P at *;rcases h.of with e|e<;>rw[e]at h4 h5⊢<;>simp at h4 h5⊢<;>omega
theorem Ve{x:Sx}{ts te:Int}(h:Af x ts){e:Ex}(he:QX te e)(kd:Int)(what:ji)(t:Wd)(hmk:yY what.data.toList=true\/isMax what.data.toList=true->kd=3\/kd=4)(hk2:kd=2->yY what.data.toList=false/\isMax what.data.toList=false/\Hl what.data.toList=false):QX (ts+6+te) (uY kd what x (t,e)):=by
 obtain⟨zs,h⟩:=h.told;obtain⟨ze,fe,m1,m2⟩:=he;obtain⟨z,q⟩:=an8 h ⟨ze,m1,m2⟩ kd what t hmk hk2;exact⟨z,_,q⟩
section
def pO(s:ji)(p q:Ps)(t:Int):Prop:=p.Ok s->q.Ok s/\(q.en=0->p.en=0/\p.k.at'+t<=q.k.at')
variable {s:ji}{p q r:Ps}{t t':Int}
theorem pO.trans(h:pO s p q t)(k:pO s q r t'):pO s p r (t+t'):=λok=>by
 obtain⟨o1,h1⟩:=h ok;obtain⟨o2,h2⟩:=k o1;refine⟨o2,λe=>?_⟩;obtain⟨e1,g1⟩:=h2 e;obtain⟨e2,g2⟩:=h1 e1;exact⟨e2,by omega⟩
theorem pO.less(h:pO s p q t)(ht:t'<=t):pO s p q t':=λok=>⟨(h ok).1,λe=>⟨((h ok).2 e).1,by have:=((h ok).2 e).2;omega⟩⟩
theorem rU(hz:1<=p.k.text.size):pO s p (p.next s) 1:=λok=>⟨ok.next,λe=>⟨e,by have:=F6 ok;omega⟩⟩
theorem Jf(p:Ps):p.fail.en≠0:=by
 unfold Hx.Ps.fail;simp only;split
 .decide
 .assumption
theorem LH(t:Int):pO s p p.fail t:=λok=>⟨ok.fail,λe=>jl e (Jf p)⟩
theorem Ee{u:List UInt8}(hu:u≠[]):pO s p (p.expect s u) 1:=by
 unfold Hx.Ps.expect;split
 .rename_i h;exact rU (qQ hu h)
 .exact LH 1
theorem LK{u:List UInt8}(hu:u≠[]):pO s p (p.jZ s u) 1:=by
 unfold Hx.Ps.jZ;split
 .exact LH 1
 .exactλok=>⟨⟨(ok.expect u).tok,Uy _,(ok.expect u).kinds⟩,(Ee hu ok).2⟩
theorem LG{u:List UInt8}(hu:u≠[]):pO s p (p.close s u) 1:=λok=>⟨ok.close u,(Ee hu ok).2⟩
theorem LJ:pO s p (p.name s).2 1:=λok=>by
 unfold Hx.Ps.name;split
 .rename_i h;exact rU (ok.kinds.name h) ok
 .exact LH 1 ok
def tH(s:ji)(ex:Ps->Ex×Ps):Prop:=∀p,p.Ok s->∃t,QX t (ex p).1/\pO s p (ex p).2 t
theorem Qo:QX 1 rF:=agL 0 0 0 (je rfl) (by decide) false
variable {ex:Ps->Ex×Ps}
theorem aag(h:tH s ex)(ok:p.Ok s):∃t,QX t (Dq s ex p).1/\pO s p (Dq s ex p).2 (t+2):=by
 obtain⟨t,q1,q2⟩:=h (p.jZ s [40]) (ok.jZ [40]);exact⟨t,q1,(((LK (by simp)).trans q2).trans (LG (by simp))).less (by omega)⟩
theorem Oo(h:tH s ex)(ok:p.Ok s):∃t,QX t (qP s ex p).1.2/\pO s p (qP s ex p).2 (t+4):=by
 have o1:=(ok.jZ [40]).name;obtain⟨t,q1,q2⟩:=h ((((p.jZ s [40]).name s).2).expect s [58]) (o1.expect [58]);exact⟨t,q1,((((LK (by simp)).trans LJ).trans (Ee (by simp))).trans (q2.trans (LG (by simp)))).less (by omega)⟩
theorem Af.add{x:Sx}{ts:Int}(h:Af x ts){d:Wd}{e:Ex}(he:QX t e):Af (x.add (d,e)) (ts+(6+t)):=by
 obtain⟨zs,tf,cs,h1,h2,h3⟩:=h.ex;obtain⟨z,f,m1,m2⟩:=he;have mc:=m2.jw;have hrb:=uo (x:=x) mc;have hxc:=h.jw;refine⟨⟨zs++[(z,f)],tf+(6+t),cs+(1+e.jw),abh h1 m1 m2,by omega,λhc=>?_⟩,h.of,h.base,yu _ (by simp;exact⟨hxc,hrb⟩)⟩;have hc:lu [x.jw,x.round e.jw]<=1000000:=hc;have ht:=Gl (a:=x.jw) hrb.1 hc;have h4:=h3 (by omega);have h5:=V4 (x:=x) (c:=e.jw) (by omega);show 1+(if x.of=3 then 8 else 16) * (cs+(1+e.jw))<=lu [x.jw,x.round e.jw];rw[ht,h5];rcases h.of with e'|e'<;>rw[e']at h4⊢<;>simp at h4⊢<;>omega
theorem afN(h:tH s ex):∀(n:Nat)(x:Sx)(ts:Int)(p0 p:Ps),Af x ts->pO s p0 p ts->p0.Ok s->∃ts',Af (vw s ex n x p).1.1 ts'/\pO s p0 (vw s ex n x p).2 (if (vw s ex n x p).1.2 then ts'+1 else ts')
 |0,x,ts,p0,p,hx,hp,ok=>⟨ts,hx,hp⟩
 |n+1,x,ts,p0,p,hx,hp,ok=>by
  unfold vw;have Nx:=(hp ok).1;split
  .rename_i hd;have e1:=hp.trans (rU (qQ (by simp) hd));split
   .rename_i hf;have e2:=e1.trans (rU (qQ (by simp) hf));obtain⟨t,b1,b2⟩:=Oo h Nx.next.next;exact afN h n _ (ts+(6+t)) p0 _ (hx.add b1) ((e2.trans b2).less (by omega)) ok
   .exact⟨ts,hx,e1⟩
  .exact⟨ts,hx,hp⟩
theorem ash{u:List UInt8}{of:Int}(h:setOf u=some of):u≠[]/\Hx.kR (if u==[70,82,69,83,72]then 1 else if u==[65,71,65,73,78]then 2 else 0)=if of=3 then 8 else 16:=by
 unfold setOf at h;split at h
 .rename_i h1;have e1:u=[82,79,65,68,83]:=by simpa using h1
  subst e1;cases h
  decide
 .split at h
  .rename_i h1;have e1:u=[70,82,69,83,72]\/u=[65,71,65,73,78]:=by simpa using h1
   cases h;rcases e1 with e1|e1<;>subst e1<;>decide
  .cases h
theorem QT(h:tH s ex)(n:Nat)(ok:p.Ok s):(∃ts,Af (oD s ex n p).1.1 ts/\pO s p (oD s ex n p).2 (if (oD s ex n p).1.2 then ts+1 else ts))\/((oD s ex n p).1.2=false/\(oD s ex n p).2=p.fail):=by
 unfold oD;cases hs:setOf p.k.text.data.toList with
 |none=>exact je ⟨rfl,rfl⟩
 |some of=>
  left;obtain⟨b1,b2⟩:=ash hs;have hx:Af ⟨p.k.at',1,p.k.text,of,[]⟩ 1:=⟨⟨[],0,0,⟨rfl,rfl,rfl⟩,by omega,λ_=>by show 1+(if of=3 then 8 else 16) * (0:Int)<=1;omega⟩,QU hs,b2,by show(0:Int)<=1/\(1:Int)<=1000001;decide⟩;exact afN h n _ 1 p (p.next s) hx (rU (J9 b1 rfl)) ok
theorem aqc(h:tH s ex)(n:Nat)(ok:p.Ok s):∃t,QX t (AY s ex n p).1/\pO s p (AY s ex n p).2 t:=by
 unfold AY;split
 .rename_i hf;rcases QT h n ok with⟨ts,h1,h2⟩|⟨h1,_⟩
  .rw[jh hf]at h2;generalize (oD s ex n p).1.1=x at *;generalize (oD s ex n p).2=q at *;have JV:=(h2 ok).1;have hof:=h1.of;unfold Ih;by_cases c1:q.is [99,111,117,110,116]=true
   .rw[jh c1];exact⟨ts+2,ZL h1 1 (by decide) _,(h2.trans (rU (qQ (by simp) c1))).less (by omega)⟩
   .rw[jg c1];by_cases c2:q.is [102,105,114,115,116]=true
    .rw[jh c2];exact⟨ts+2,ZL h1 x.of (by omega) _,(h2.trans (rU (qQ (by simp) c2))).less (by omega)⟩
    .rw[jg c2];by_cases c3:(q.is [109,105,110]||q.is [109,97,120])=true
     .rw[jh c3];obtain⟨t,b1,b2⟩:=Oo h JV.next;have hz:1<=q.k.text.size:=by
       rcases Bool.or_eq_true_iff.1 c3 with c|c
       .exact qQ (by simp) c
       .exact qQ (by simp) c
      exact⟨ts+6+t,Ve h1 b1 x.of q.k.text (qP s ex (q.next s)).1.1 (λ_=>hof) (λe=>by omega),((h2.trans (rU hz)).trans b2).less (by omega)⟩
     .rw[jg c3];by_cases c4:q.is [115,117,109]=true
      .rw[jh c4];obtain⟨t,b1,b2⟩:=Oo h JV.next;have e4:=Jt c4;exact⟨ts+6+t,Ve h1 b1 1 q.k.text (qP s ex (q.next s)).1.1 (λe=>by rw[e4]at e;rcases e with e|e<;>exact jl e (by decide)) (λe=>by omega),((h2.trans (rU (qQ (by simp) c4))).trans b2).less (by omega)⟩
      .rw[jg c4];by_cases c5:q.is [97,110,121]=true
       .rw[jh c5];obtain⟨t,b1,b2⟩:=Oo h JV.next;have e5:=Jt c5;exact⟨ts+6+t,Ve h1 b1 2 q.k.text (qP s ex (q.next s)).1.1 (λe=>by rw[e5]at e;rcases e with e|e<;>exact jl e (by decide)) (λ_=>by rw[e5];decide),((h2.trans (rU (qQ (by simp) c5))).trans b2).less (by omega)⟩
       .rw[jg c5];exact⟨1,Qo,λok'=>⟨JV.fail,λe=>jl e (Jf q)⟩⟩
  .rw[h1]at hf;cases hf
 .have JV:(oD s ex n p).2.Ok s:=by
   rcases QT h n ok with⟨ts,h1,h2⟩|⟨_,h2⟩
   .exact(h2 ok).1
   .rw[h2];exact ok.fail
  exact⟨1,Qo,λok'=>⟨JV.fail,λe=>jl e (Jf _)⟩⟩
theorem aiS(h:tH s ex)(n:Nat)(ok:p.Ok s):∃t,QX t (sZ s ex n p).1/\pO s p (sZ s ex n p).2 t:=by
 unfold sZ;by_cases c1:p.k.kind=3
 .rw[jh c1];obtain⟨k1,k2,k3⟩:=ok.kinds.number c1;refine⟨1,aoB _ _ ?_,rU k1⟩;cases ha:Lib.atoi p.k.text.data.toList with
  |none=>exact Dw
  |some m=>
   have:=Lib.atoi_bound ha (by rw[eX];exact k2);show jJ m;unfold jJ;omega
 rw[jg c1];by_cases c2:p.k.kind=4
 .rw[jh c2];obtain⟨x,k1,k2,k3⟩:=ok.kinds.register c2;refine⟨1,aqR _ _ ?_,rU (J9 (by simp) k1)⟩;rw[k1];show 0<=((x.toNat:Int)-48)/\((x.toNat:Int)-48)<8;omega
 rw[jg c2];by_cases c3:p.k.kind=2
 .rw[jh c3];exact⟨1,atQ _ _,rU (ok.kinds.name c3)⟩
 rw[jg c3];by_cases c4:(p.is [116,114,117,101]||p.is [102,97,108,115,101])=true
 .rw[jh c4];refine⟨1,agL _ 1 2 (jf rfl) (by decide) _,rU ?_⟩;rcases Bool.or_eq_true_iff.1 c4 with c|c
  .exact qQ (by simp) c
  .exact qQ (by simp) c
 rw[jg c4];by_cases c5:p.is [40]=true
 .rw[jh c5];obtain⟨t,q1,q2⟩:=aag h ok;exact⟨t,atX q1 _,q2.less (by omega)⟩
 rw[jg c5];by_cases c6:p.is [105,115,110,111,110,101]=true
 .rw[jh c6];obtain⟨t,q1,q2⟩:=aag h ok.next;exact⟨t+1,aml q1 _,((rU (qQ (by simp) c6)).trans q2).less (by omega)⟩
 rw[jg c6];by_cases c7:(setOf p.k.text.data.toList).isSome=true
 .rw[jh c7];exact aqc h n ok
 rw[jg c7];exact⟨1,Qo,LH 1⟩
theorem SK(h:tH s ex)(a:Int):∀(n:Nat)(e:Ex)(t:Int)(p0 p:Ps),QX t e->pO s p0 p t->p0.Ok s->∃t',QX t' (tk s ex a n e p).1/\pO s p0 (tk s ex a n e p).2 t'
 |0,e,t,p0,p,he,hp,ok=>⟨t,he,hp⟩
 |n+1,e,t,p0,p,he,hp,ok=>by
  unfold tk;have Nx:=(hp ok).1;split
  .rename_i hd;simp only;have e1:=hp.trans (rU (qQ (by simp) hd));have e2:=e1.trans LJ;split
   .obtain⟨t2,q1,q2⟩:=h (((p.next s).name s).2.jZ s [40]) (((Nx.next).name).jZ [40]);exact SK h a n _ (t+1+t2) p0 _ (aoJ he q1 a) (((e2.trans (LK (by simp))).trans (q2.trans (LG (by simp)))).less (by omega)) ok
   .exact SK h a n _ (t+1) p0 _ (apN he a _) (e2.less (by omega)) ok
  .exact⟨t,he,hp⟩
theorem ZW(h:tH s ex)(n:Nat)(ok:p.Ok s):∃t,QX t (Ak s ex n p).1/\pO s p (Ak s ex n p).2 t:=by
 obtain⟨t,q1,q2⟩:=aiS h n ok;exact SK h _ n _ t p _ q1 q2 ok
theorem Vh(h:tH s ex)(n:Nat):∀(m:Nat)(p:Ps),p.Ok s->∃t,QX t (qG s ex n m p).1/\pO s p (qG s ex n m p).2 t
 |0,p,ok=>ZW h n ok
 |m+1,p,ok=>by
  unfold qG;split
  .rename_i hd;obtain⟨t,q1,q2⟩:=Vh h n m (p.next s) ok.next;exact⟨t+1,aoc q1 _ _ (Jt hd),((rU (qQ (by simp) hd)).trans q2).less (by omega)⟩
  .split
   .rename_i hd;obtain⟨t,q1,q2⟩:=Vh h n m (p.next s) ok.next;exact⟨t+1,aou q1 _ _ (Jt hd),((rU (qQ (by simp) hd)).trans q2).less (by omega)⟩
   .exact ZW h n ok
theorem amN{u:ji}{of:Int}(ho:of<=5)(h:nO u.data.toList=of):1<=u.size:=by
 by_cases h0:u.size=0
 .have h4:=h0;have he:u=⟨#[]⟩:=iZ (fO h4);rw[he]at h;have:nO (⟨#[]⟩:ji).data.toList=6:=rfl;omega
 .omega
theorem aeb{lower:Ps->Ex×Ps}(hl:tH s lower)(of a:Int)(ho:of<=5):∀(n:Nat)(e:Ex)(t:Int)(p0 p:Ps),QX t e->pO s p0 p t->p0.Ok s->∃t',QX t' (rY s lower of a n e p).1/\pO s p0 (rY s lower of a n e p).2 t'
 |0,e,t,p0,p,he,hp,ok=>⟨t,he,hp⟩
 |n+1,e,t,p0,p,he,hp,ok=>by
  unfold rY;have Nx:=(hp ok).1;split
  .rename_i hd;simp only;obtain⟨t2,q1,q2⟩:=hl (p.next s) Nx.next;have e1:=((hp.trans (rU (amN ho hd))).trans q2);have hq:=atF he q1 a p.k.text;split
   .exact⟨t+1+t2,hq,e1⟩
   .exact aeb hl of a ho n _ (t+1+t2) p0 _ hq e1 ok
  .exact⟨t,he,hp⟩
theorem VG(h:tH s ex)(n:Nat):∀(l:Nat),tH s (qR s ex n l)
 |0,p,ok=>Vh h n n p ok
 |l+1,p,ok=>by
  obtain⟨t,q1,q2⟩:=VG h n l p ok;exact aeb (VG h n l) _ _ (by omega) n _ t p _ q1 q2 ok
theorem TA(s:ji):∀d:Nat,tH s (kT s d)
 |0,_,_=>⟨1,Qo,LH 1⟩
 |d+1,p,ok=>VG (TA s d) _ 6 p ok
end
end
end Go.Proofs.YthllhabjfchgiaaGreatDoor
