import Derived.Test.YthllhabjfchgiaaGreatDoorHz30
import Derived.Lib.SliceRun
set_option maxRecDepth 100000
set_option maxHeartbeats 8000000
namespace Go.Proofs.YthllhabjfchgiaaGreatDoor
open _root_.Go.Proofs.Tryz
section
open Go.RowKit Hx
attribute [local go_sem ↓] Go.wp_at_zero Go.wp_at_succ
attribute [local go_sem] bT
section
variable {w w' w2:World}{pk:Nat->Nat}{v:Value}{l:List Nat}
theorem TI(w:World)(a b:Nat):(w.drewN a).drewN b=w.drewN (a+b):=by simp[World.drewN,Nat.add_assoc]
structure BZ(w:World)(pk:Nat->Nat)(v:Value)(l:List Nat):Prop where
 row:∃a cap,v=.slice a l.length cap/\∀i q,l[i]? =some q->∃g,a=some (Ad g 0)/\w.cell? (Ad g i)=some (ptr pk q)
 mg:∀q∈l,w.cell? (Ad (pk q) 0)=some (Im (q:Int))
def oD(pk:Nat->Nat):Option Nat->Value
 |none=>.pointer none
 |some q=>ptr pk q
theorem abv(l:List Nat)(x:Int)(i q:Nat)(h:l[i]? =some q):lH (l.drop i) x=if (q:Int)==x then some q else lH (l.drop (i+1)) x:=by
 obtain⟨hi,he⟩:=List.getElem?_eq_some_iff.1 h;rw[List.drop_eq_getElem_cons hi,he];unfold lH;rw[List.find?_cons];cases ((q:Int)==x)<;>rfl
theorem J4(h:BZ w pk v l)(hl:l.length<=1000000000000000)(x:Int):
 Calls prog 160 #[v,Im x] w fun e w'=>e=.returned (oD pk (lH l x))/\w'=w:=by
 obtain⟨⟨a,cap,rfl,hrow⟩,hpk⟩:=h;have HR:Hid ((∀i q,l[i]? =some q->∃g,a=some (Ad g 0)/\w.cell? (Ad g i)=some (ptr pk q))/\∀q∈l,w.cell? (Ad (pk q) 0)=some (Im (q:Int))):=⟨hrow,hpk⟩;clear hrow hpk;have HN:Hid (lH l x=lH (l.drop 0) x):=rfl;generalize hr:lH l x=r at *;clear hr;go_enter func160,ntmps160;go_wp2_with fail;go_loopg [9] (l.length+1) (fun gg i wr=>Hid (∃k:Nat,k+gg=l.length+1/\k<=l.length/\i=Im k/\r=lH (l.drop k) x/\wr=w))
 case atStart=>exact⟨0,by omega,Nat.zero_le _,rfl,HN.out,rfl⟩
 case round=>
  obtain⟨k,hk1,hk2,rfl,hr,rfl⟩:=hrel.out;clear hrel;by_cases hlt:k<l.length
  .have d1:decide ((k:Int)<(l.length:Int))=true:=by simp;omega
   have i0:(0:Int)<=(k:Int):=by omega
   have i1:(k:Int)<(l.length:Int):=by omega
   have hget:l[k]? =some l[k]:=by simp
   obtain⟨g,hag,k0⟩:=HR.out.1 k _ hget;subst hag;have k1:=HR.out.2 l[k] (List.getElem_mem hlt);have HD:Hid (r=if ((l[k]:Nat):Int)==x then some l[k]else lH (l.drop (k+1)) x):=by rw[hr];exact abv l x k _ hget
   obtain⟨g',hg'⟩:∃g',gk=g'+1:=⟨gk-1,by omega⟩;clear hr hget;generalize l[k]=q at *;unfold ptr at k0;cases ht:((q:Int)==x)with
   |true=>
    have HD2:Hid (r=some q):=by have:=HD.out;rw[ht]at this;exact this
    clear HD;go_wp2_with fail;go_ret;exact⟨by rw[HD2.out];rfl,rfl⟩
   |false=>
    have HD2:Hid (r=lH (l.drop (k+1)) x):=by have:=HD.out;rw[ht]at this;exact this
    clear HD;go_wp2_with fail;go_roundg g'
    case measure=>omega
    case rel=>exact⟨k+1,by omega,by omega,by go_num,HD2.out,rfl⟩
  .have d1:decide ((k:Int)<(l.length:Int))=false:=decide_eq_false (by omega);have HD:Hid (r=none):=by rw[hr,List.drop_of_length_le (by omega)];rfl
   clear hr;go_wp2_with fail;go_ret;exact⟨by rw[HD.out];rfl,rfl⟩
def vI(g:FuncId)(pk:Nat->Nat)(bx:Nat)(p:Nat->Bool)(q:Nat)(W:World):Prop:=Calls prog g #[ptr pk q,Pt bx 0] W fun e W'=>e=.returned (.bool (p q))/\∃n,W'=W.drewN n
theorem ajt{bx q:Nat}{x:Int}(h0:w.cell? (Ad (pk q) 0)=some (Im (q:Int)))(h1:w.cell? (Ad bx 0)=some (Im x)):vI 211 pk bx (fun q=>(q:Int)==x) q w:=by
 unfold vI ptr;generalize hr:((q:Int)==x)=r;go_enter func211,ntmps211;go_wp2_with fail;go_quiet (fail);go_wp2_with fail;go_ret;exact⟨by first|rfl|(rw[<-hr];rfl),_,rfl⟩
theorem abB{bx q:Nat}{x:Int}(h0:w.cell? (Ad (pk q) 0)=some (Im (q:Int)))(h1:w.cell? (Ad bx 0)=some (Im x)):vI 176 pk bx (fun q=>decide ((q:Int)<x)) q w:=by
 unfold vI ptr;generalize hr:decide ((q:Int)<x)=r;go_enter func176,ntmps176;go_wp2_with fail;go_quiet (fail);go_wp2_with fail;go_ret;exact⟨by first|rfl|(rw[<-hr];rfl),_,rfl⟩
def idxOf(p:Nat->Bool):List Nat->Nat->Int
 |[],_=>-1
 |q::l,i=>if p q then (i:Int)else idxOf p l (i+1)
theorem acV(p:Nat->Bool)(l:List Nat)(i q:Nat)(h:l[i]? =some q):idxOf p (l.drop i) i=if p q then (i:Int)else idxOf p (l.drop (i+1)) (i+1):=by
 obtain⟨hi,he⟩:=List.getElem?_eq_some_iff.1 h;rw[List.drop_eq_getElem_cons hi,he]
 rfl
theorem U3(p:Nat->Bool):∀(l:List Nat)(i:Nat),(idxOf p l i= -1/\∀q∈l,p q=false)\/∃k,k<l.length/\idxOf p l i=((i+k:Nat):Int)/\(∀q,l[k]? =some q->p q=true)/\∀q∈l.take k,p q=false
 |[],_=>Or.inl ⟨rfl,by simp⟩
 |q::l,i=>by
  cases h:p q with
  |true=>exact Or.inr ⟨0,by simp,by simp[idxOf,h],by simpa using h,by simp⟩
  |false=>
   rcases U3 p l (i+1)with⟨e,ha⟩|⟨k,hk,e,ht,ha⟩
   .exact Or.inl ⟨by simp[idxOf,h,e],by simpa [h]using ha⟩
   .refine Or.inr ⟨k+1,by simpa using hk,?_,by simpa using ht,by simpa [h]using ha⟩;simp only[idxOf,h,Bool.false_eq_true,if_false];rw[e]
    congr 1
    omega
theorem ac8{g:FuncId}{bx:Nat}{p:Nat->Bool}(eg:Enters g)(h:BZ w pk v l)(hl:l.length<=1000000000000000)(hp:∀q∈l,∀n,vI g pk bx p q (w.drewN n)):
 Calls prog 212 #[v,.func (.func g) #[] #[Pt bx 0]] w fun e w'=>e=.returned (Im (idxOf p l 0))/\∃n,w'=w.drewN n:=by
 obtain⟨⟨a,cap,rfl,hrow⟩,hpk⟩:=h;have HR:Hid ((∀i q,l[i]? =some q->∃g,a=some (Ad g 0)/\w.cell? (Ad g i)=some (ptr pk q))/\∀q∈l,∀n,vI g pk bx p q (w.drewN n)):=⟨hrow,hp⟩;clear hrow hpk hp;have eg:∀args w,(callFunc g args).run prog w=.ok (.enter g args) w:=eg;have HN:Hid (idxOf p l 0=idxOf p (l.drop 0) 0):=rfl;generalize hr:idxOf p l 0=r at *;clear hr;go_enter func212,ntmps212;go_wp2_with fail;go_loopg [8] (l.length+1) (fun gg i wr=>Hid (∃k n:Nat,k+gg=l.length+1/\k<=l.length/\i=Im k/\r=idxOf p (l.drop k) k/\wr=w.drewN n))
 case atStart=>exact⟨0,0,by omega,Nat.zero_le _,rfl,HN.out,rfl⟩
 case round=>
  obtain⟨k,n,hk1,hk2,rfl,hr,rfl⟩:=hrel.out;clear hrel;by_cases hlt:k<l.length
  .have d1:decide ((k:Int)<(l.length:Int))=true:=by simp;omega
   have i0:(0:Int)<=(k:Int):=by omega
   have i1:(k:Int)<(l.length:Int):=by omega
   have hget:l[k]? =some l[k]:=by simp
   obtain⟨gb,hag,k0⟩:=HR.out.1 k _ hget;subst hag;have k0:(w.drewN n).cell? (Ad gb k)=some (ptr pk l[k]):=k0;have HT:=bC (HR.out.2 l[k] (List.getElem_mem hlt) n);have HD:Hid (r=if p l[k]then (k:Int)else idxOf p (l.drop (k+1)) (k+1)):=by rw[hr];exact acV p l k _ hget
   obtain⟨g',hg'⟩:∃g',gk=g'+1:=⟨gk-1,by omega⟩;clear hr hget;generalize l[k]=q at *;generalize hW:w.drewN n=W at *;have HW:Hid (w.drewN n=W):=hW;clear hW;cases ht:p q with
   |true=>
    have HD2:Hid (r=(k:Int)):=by have:=HD.out;rw[ht]at this;exact this
    unfold vI at HT;rw[ht]at HT;clear HD;go_wp2_with fail;refine HT.out.mono ?_;rintro e w1 ⟨rfl,n1,rfl⟩;go_wp2_with fail;go_ret;exact⟨by rw[HD2.out];rfl,n+n1,by rw[<-HW.out,TI]⟩
   |false=>
    have HD2:Hid (r=idxOf p (l.drop (k+1)) (k+1)):=by have:=HD.out;rw[ht]at this;exact this
    unfold vI at HT;rw[ht]at HT;clear HD;go_wp2_with fail;refine HT.out.mono ?_;rintro e w1 ⟨rfl,n1,rfl⟩;go_wp2_with fail;go_roundg g'
    case measure=>omega
    case rel=>exact⟨k+1,n+n1,by omega,by omega,by go_num,HD2.out,by rw[<-HW.out,TI]⟩
  .have d1:decide ((k:Int)<(l.length:Int))=false:=decide_eq_false (by omega);have HD:Hid (r= -1):=by rw[hr,List.drop_of_length_le (by omega)];rfl
   clear hr;go_wp2_with fail;go_ret;exact⟨by rw[HD.out];rfl,n,rfl⟩
structure qX(w wr:World)(g:Nat)(pk:Nat->Nat)(l:List Nat)(p:Nat->Bool)(cap i j:Nat):Prop where
 aW:∃cur,wr.heap[g]? =some (.cells cur 163 (0,0))/\cur.size=cap/\cur.toList.take i=dD pk ((l.take j).filter fun q=>!p q)/\∀k q,j<=k->l[k]? =some q->cur[k]? =some (ptr pk q)
 lt:i<j
 le:j<=l.length
 JI:i=((l.take j).filter fun q=>!p q).length
 grown:w.grownBy wr (some g)
theorem qX.draw{wr:World}{g cap i j:Nat}{p:Nat->Bool}(h:qX w wr g pk l p cap i j)(n:Nat):qX w (wr.drewN n) g pk l p cap i j:=
 ⟨h.aW,h.lt,h.le,h.JI,h.grown.trans ((dh wr n).but _)⟩
theorem qX.skip{wr:World}{g cap i j q:Nat}{p:Nat->Bool}(h:qX w wr g pk l p cap i j)(hj:l[j]? =some q)(hp:p q=true):qX w wr g pk l p cap i (j+1):=by
 have h1:l.take (j+1)=l.take j++[q]:=by rw[List.take_add_one,hj];rfl
 have h2:(l.take (j+1)).filter (fun q=>!p q)=(l.take j).filter fun q=>!p q:=by rw[h1,List.filter_append];simp[hp]
 obtain⟨cur,b1,b2,b3,b4⟩:=h.aW;exact⟨⟨cur,b1,b2,by rw[h2];exact b3,fun k q' hk=>b4 k q' (by omega)⟩,by have:=h.lt;omega,(List.getElem?_eq_some_iff.1 hj).1,by rw[h2];exact h.JI,h.grown⟩
theorem qX.aN{wr:World}{g cap i j q:Nat}{p:Nat->Bool}(h:qX w wr g pk l p cap i j)(hj:l[j]? =some q)(hp:p q=false)(hcap:l.length<=cap):qX w (wr.setCell (Ad g i) (ptr pk q)) g pk l p cap (i+1) (j+1):=by
 have h1:l.take (j+1)=l.take j++[q]:=by rw[List.take_add_one,hj];rfl
 have h2:(l.take (j+1)).filter (fun q=>!p q)=((l.take j).filter fun q=>!p q)++[q]:=by rw[h1,List.filter_append];simp[hp]
 have hlt:=h.lt;have hjl:=(List.getElem?_eq_some_iff.1 hj).1;obtain⟨cur,b1,b2,b3,b4⟩:=h.aW;refine⟨⟨cur.setIfInBounds i (ptr pk q),?_,by simpa using b2,?_,fun k q' hk hq'=>?_⟩,by omega,hjl,by rw[h2,List.length_append,<-h.JI];rfl,h.grown.trans (dV wr g i _)⟩
 .exact heap_setCell_same _ _ _ _ _ _ b1
 .rw[h2,dD,List.map_append];rw[dD]at b3;rw[<-b3,Array.toList_setIfInBounds];have hil:i<cur.toList.length:=by rw[Array.length_toList];omega
  rw[List.take_add_one,List.getElem?_set_self hil,List.take_set_of_le (Nat.le_refl _)]
  rfl
 .rw[Array.getElem?_setIfInBounds_ne (by omega)];exact b4 k q' (by omega) hq'
theorem UE(g:Nat)(T:TypeId):∀(vs:List Value)(o:Nat)(w:World)(cur:Array Value),w.heap[g]? =some (.cells cur T (0,0))->∃cur',(w.setCells g o vs).heap[g]? =some (.cells cur' T (0,0))/\cur'.size=cur.size/\∀j,j<o->cur'[j]? =cur[j]?
 |[],_,_,cur,h=>⟨cur,h,rfl,fun _ _=>rfl⟩
 |v::vs,o,w,cur,h=>by
  have h1:(w.setCell (Ad g o) v).heap[g]? =some (.cells (cur.setIfInBounds o v) T (0,0)):=heap_setCell_same _ _ _ _ _ _ h;obtain⟨cur',q1,q2,q3⟩:=UE g T vs (o+1) _ _ h1;exact⟨cur',q1,by rw[q2];simp,fun j hj=>by rw[q3 j (by omega),Array.getElem?_setIfInBounds_ne (by omega)]⟩
theorem Ur(g:Nat):∀(vs:List Value)(o:Nat)(w:World),w.grownBy (w.setCells g o vs) (some g)
 |[],_,_=>World.grownBy.refl _ _
 |v::vs,o,w=>(dV w g o v).trans (Ur g vs (o+1) _)
theorem qX.done{wr:World}{g cap i:Nat}{p:Nat->Bool}{vs:List Value}(h:qX w wr g pk l p cap i l.length)(hc2:cap<=maxLen)(hcap:l.length<=cap)(n:Nat):
 ((wr.setCells g i vs).drewN n).ownsRow 0 163 1 (.slice (some (Ad g 0)) i cap) i (dD pk (l.filter fun q=>!p q))/\w.grownBy ((wr.setCells g i vs).drewN n) (some g)/\i=(l.filter fun q=>!p q).length:=by
 have hlt:=h.lt;have hc:=h.JI;obtain⟨cur,b1,b2,b3,b4⟩:=h.aW;rw[List.take_of_length_le (Nat.le_refl _)]at b3 hc;obtain⟨cur',q1,q2,q3⟩:=UE g 163 vs i wr cur b1;refine⟨⟨by rw[dD,List.length_map,<-hc,Nat.mul_one],Or.inr ⟨g,cap,cur',rfl,Nat.zero_le _,q1,by omega,hc2,by rw[q2,b2,Nat.mul_one],?_⟩⟩,(h.grown.trans (Ur g vs i wr)).trans ((dh _ n).but _),hc⟩;rw[Nat.mul_one,<-b3];apply List.ext_getElem?;intro j;rcases Nat.lt_or_ge j i with hj|hj
 .rw[List.getElem?_take_of_lt hj,List.getElem?_take_of_lt hj,Array.getElem?_toList,Array.getElem?_toList,q3 j hj]
 .rw[List.getElem?_take_eq_none hj,List.getElem?_take_eq_none hj]
theorem KN:(prog.info? 163).map (fun i=>(i.zero,i.size,i.bytes))=some (some (.pointer none),1,8):=by kernel_rfl
theorem aa2{f:FuncId}{bx:Nat}{p:Nat->Bool}(ef:Enters f)(hrow:w.ownsRow 0 163 1 v l.length (dD pk l))(hl:l.length<=1000000000000000)(hpk:∀q∈l,w.cell? (Ad (pk q) 0)=some (Im (q:Int)))(hp:∀q∈l,∀W,w.grownBy W v.ownBlock->vI f pk bx p q W):
 Calls prog 175 #[v,.func (.func f) #[] #[Pt bx 0]] w fun e w'=>∃u,e=.returned u/\w'.ownsRow 0 163 1 u (l.filter fun q=>!p q).length (dD pk (l.filter fun q=>!p q))/\w.grownBy w' v.ownBlock/\(∀k,u.ownBlock=some k->v.ownBlock=some k):=by
 have hP:BZ w pk v l:=by
  refine⟨?_,hpk⟩;rcases hrow with⟨h1,⟨h2,h3⟩|⟨g,cap,cur,h2,h3,h4,h5,h6,h7,h8⟩⟩
  .exact⟨none,0,by rw[h3];exact h2,fun i q hq=>by have:=List.length_eq_zero_iff.1 h3;rw[this]at hq;simp at hq⟩
  .refine⟨some (Ad g 0),cap,h2,fun i q hq=>⟨g,rfl,?_⟩⟩;have hil:=(List.getElem?_eq_some_iff.1 hq).1;rw[aA h4];have e1:(dD pk l)[i]? =some (ptr pk q):=by rw[dD,List.getElem?_map,hq];rfl
   rw[<-h8,Nat.mul_one,List.getElem?_take_of_lt hil]at e1;simpa using e1
 have HI:=bC (ac8 (bx:=bx) (p:=p) ef hP hl (fun q hq n=>hp q hq _ ((dh w n).but _)));have ef:∀args w,(callFunc f args).run prog w=.ok (.enter f args) w:=ef;rcases U3 p l 0 with⟨e1,hall⟩|⟨k0,hk0,e1,ht,hall⟩
 .have hfil:(l.filter fun q=>!p q)=l:=List.filter_eq_self.2 fun q hq=>by simp[hall q hq]
  rw[hfil];rw[e1]at HI;have HE:Hid (∀n,∃u,v=u/\(w.drewN n).ownsRow 0 163 1 u l.length (dD pk l)/\w.grownBy (w.drewN n) v.ownBlock/\∀k,u.ownBlock=some k->v.ownBlock=some k):=fun n=>⟨v,rfl,hrow.kept (dh w n) (by cases v.ownBlock<;>simp),(dh w n).but _,fun _ h=>h⟩;obtain⟨a,cap,rfl⟩:=fJ hrow;clear hrow hpk hp hP hall;go_enter func175,ntmps175;go_wp2_with fail;refine HI.out.mono ?_;rintro e w1 ⟨rfl,n1,rfl⟩;go_wp2_with fail;go_ret;obtain⟨u,rfl,hu⟩:=HE.out n1;exact⟨_,rfl,hu⟩
 .have e2:idxOf p l 0=(k0:Int):=by rw[e1];simp
  rw[e2]at HI;rcases hrow with⟨h1,⟨h2,h3⟩|⟨g,cap,cur,h2,h3,h4,h5,h6,h7,h8⟩⟩
  .omega
  subst h2;have hfil:((l.take (k0+1)).filter fun q=>!p q)=l.take k0:=by
   have hq:l[k0]? =some l[k0]:=by simp
   have h9:l.take (k0+1)=l.take k0++[l[k0]]:=by rw[List.take_add_one,hq];rfl
   rw[h9,List.filter_append,List.filter_eq_self.2 fun q hq'=>by simp[hall q hq']];simp[ht _ hq]
  have HO:Hid (∀n,qX w (w.drewN n) g pk l p cap k0 (k0+1)):=fun n=>by
   refine qX.draw ⟨⟨cur,h4,by omega,?_,fun k q hk hq=>?_⟩,by omega,by omega,?_,World.grownBy.refl _ _⟩ n
   .rw[hfil,dD,List.map_take];have h8':cur.toList.take l.length=l.map (ptr pk):=by rw[Nat.mul_one]at h8;exact h8
    rw[<-h8',List.take_take,Nat.min_eq_left (by omega)]
   .have hil:=(List.getElem?_eq_some_iff.1 hq).1;have e1:(dD pk l)[k]? =some (ptr pk q):=by rw[dD,List.getElem?_map,hq];rfl
    rw[<-h8,Nat.mul_one,List.getElem?_take_of_lt hil]at e1;simpa using e1
   .rw[hfil,List.length_take];omega
  have HP:Hid (∀q∈l,∀W,w.grownBy W (some g)->vI f pk bx p q W):=hp;clear h1 h3 h4 h7 h8 hpk hp hP hall ht e1 e2 hfil;go_enter func175,ntmps175;have b1:((k0:Int)== -1)=false:=beq_eq_false_iff_ne.2 (by omega);go_wp2_with fail;refine HI.out.mono ?_;rintro e w1 ⟨rfl,n1,rfl⟩;go_wp2_with fail;go_loopg [5,6,7] (l.length+1) (fun gg s5 s6 _ wr=>Hid (∃i j:Nat,s5=Im i/\s6=Im j/\l.length+1<=j+gg/\qX w wr g pk l p cap i j))
  case atStart=>exact⟨k0,k0+1,rfl,by go_num,by omega,HO.out n1⟩
  case round=>
   obtain⟨i,j,rfl,rfl,hgg,hI⟩:=hrel.out;clear hrel HO HI;have hlt0:=hI.lt;have hle:=hI.le;obtain⟨cur',b1',b2,b3,b4⟩:=hI.aW;by_cases hlt:j<l.length
   .have d1:decide ((j:Int)<(l.length:Int))=true:=by simp;omega
    have i0:(0:Int)<=(j:Int):=by omega
    have i1:(j:Int)<(l.length:Int):=by omega
    have i2:(0:Int)<=(i:Int):=by omega
    have i3:(i:Int)<(l.length:Int):=by omega
    have hget:l[j]? =some l[j]:=by simp
    have k0':wr.cell? (Ad g j)=some (ptr pk l[j]):=(aA b1').trans (b4 j _ (Nat.le_refl _) hget);obtain⟨ui,hui⟩:∃ui,wr.cell? (Ad g i)=some ui:=⟨_,(aA b1').trans (by rw[Array.getElem?_eq_getElem (by omega)])⟩;have fz:wr.frozen? (Ad g i)=false:=eu b1';have HT:=bC (HP.out l[j] (List.getElem_mem hlt) wr hI.grown);have HK:Hid (p l[j]=false->∀n,qX w ((wr.setCell (Ad g i) (ptr pk l[j])).drewN n) g pk l p cap (i+1) (j+1)):=fun hpf n=>(hI.aN hget hpf h5).draw n;have HS:Hid (p l[j]=true->∀n,qX w (wr.drewN n) g pk l p cap i (j+1)):=fun hpt n=>(hI.skip hget hpt).draw n;obtain⟨g',hg'⟩:∃g',gk=g'+1:=⟨gk-1,by omega⟩;clear hI hget b1' b2 b3 b4;generalize l[j]=q at *;unfold vI at HT;simp only[ptr]at HT k0';cases hpq:p q with
    |true=>
     rw[hpq]at HT;have HS2:=bC (HS.out hpq);clear HS HK;go_wp2_with fail;refine HT.out.mono ?_;rintro e w3 ⟨rfl,n3,rfl⟩;go_wp2_with fail;go_roundg g'
     case measure=>omega
     case rel=>exact⟨i,j+1,rfl,by go_num,by omega,HS2.out _⟩
    |false=>
     rw[hpq]at HT;have dO:=bC (HK.out hpq);clear HS HK;go_wp2_with fail;refine HT.out.mono ?_;rintro e w3 ⟨rfl,n3,rfl⟩;go_wp2_with fail;go_roundg g'
     case measure=>omega
     case rel=>exact⟨i+1,j+1,by go_num,by go_num,by omega,dO.out _⟩
   .have d1:decide ((j:Int)<(l.length:Int))=false:=decide_eq_false (by omega);have hje:j=l.length:=by omega
    subst hje;have i2:(0:Int)<=(i:Int):=by omega
    have i3:(i:Int)<=(l.length:Int):=by omega
    have i4:(i:Int)<=(cap:Int):=by omega
    have i5:(l.length:Int)<=(cap:Int):=by omega
    have hcl:∀ty,(Builtin.clear_ #[155] ty #[.slice (some (Ad g i)) (l.length-i) (cap-i)]).run prog wr=.ok (.tuple #[]) (wr.setCells g i (List.replicate (l.length-i) (.pointer none))):=fun ty=>Lib.run_clear_slice wr _ 163 ty (.pointer none) (by kernel_rfl) (fun w=>by kernel_rfl) rfl rfl g i _ _ (by omega) (fun t ht=>by
     rw[aA b1',Array.getElem?_eq_getElem (by omega)]
     rfl) (fun t ht=>eu b1')
    have HE:=bC (hI.done (vs:=List.replicate (l.length-i) (.pointer none)) h6 h5 0);clear hI b1' b2 b3 b4;go_wp2_with fail;go_ret;obtain⟨z1,z2,z3⟩:=HE.out;exact⟨_,rfl,by rw[<-z3];exact z1,z2,fun k hk=>hk⟩
structure uz(w:World)(pk:Nat->Nat)(v:Value)(l:List Nat):Prop where
 row:w.ownsRow 0 163 1 v l.length (dD pk l)
 len:l.length<=1000000000000000
 mg:∀q∈l,w.cell? (Ad (pk q) 0)=some (Im (q:Int))
 ne:∀q∈l,v.ownBlock≠some (pk q)
theorem uz.read(h:uz w pk v l):BZ w pk v l:=by
 refine⟨?_,h.mg⟩;rcases h.row with⟨h1,⟨h2,h3⟩|⟨g,cap,cur,h2,h3,h4,h5,h6,h7,h8⟩⟩
 .exact⟨none,0,by rw[h3];exact h2,fun i q hq=>by have:=List.length_eq_zero_iff.1 h3;rw[this]at hq;simp at hq⟩
 .refine⟨some (Ad g 0),cap,h2,fun i q hq=>⟨g,rfl,?_⟩⟩;have hil:=(List.getElem?_eq_some_iff.1 hq).1;rw[aA h4];have e1:(dD pk l)[i]? =some (ptr pk q):=by rw[dD,List.getElem?_map,hq];rfl
  rw[<-h8,Nat.mul_one,List.getElem?_take_of_lt hil]at e1;simpa using e1
theorem uz.delete(h:uz w pk v l){f:FuncId}{p:Nat->Bool}(ef:Enters f)(x:Int)(ht:∀(W:World)(bx q:Nat),W.cell? (Ad (pk q) 0)=some (Im (q:Int))->W.cell? (Ad bx 0)=some (Im x)->vI f pk bx p q W):
 Calls prog 175 #[v,.func (.func f) #[] #[Pt w.heap.size 0]] (w.alloc (.cells #[Im x] 3)) fun e w'=>∃u,e=.returned u/\w'.ownsRow 0 163 1 u (l.filter fun q=>!p q).length (dD pk (l.filter fun q=>!p q))/\w.grownBy w' v.ownBlock/\(∀k,u.ownBlock=some k->v.ownBlock=some k):=by
 have g0:=World.grownBy_alloc w (.cells #[Im x] 3) none;have hbx:(w.alloc (.cells #[Im x] 3)).cell? (Ad w.heap.size 0)=some (Im x):=aA (heap_alloc_new w _);refine(aa2 (bx:=w.heap.size) (p:=p) ef (h.row.alloc _) h.len (fun q hq=>g0.cell (h.mg q hq) (by simp)) (fun q hq W hW=>ht W _ q (hW.cell (g0.cell (h.mg q hq) (by simp)) (fun e=>h.ne q hq e.symm)) (hW.cell hbx ?_))).mono ?_
 .intro e;have:=(h.row.lt _ e.symm).2;simp only at this;omega
 .rintro e w' ⟨u,q1,q2,q3,q4⟩;exact⟨u,q1,q2,(g0.but _).trans q3,q4⟩
theorem YJ(h:uz w pk v l)(x:Int):Calls prog 173 #[v,Im x] w fun e w'=>∃u,e=.returned u/\w'.ownsRow 0 163 1 u (mV l x).length (dD pk (mV l x))/\w.grownBy w' v.ownBlock/\(∀k,u.ownBlock=some k->v.ownBlock=some k):=by
 have HD:=bC (h.delete (f:=211) (p:=fun q=>(q:Int)==x) (fun args w=>by kernel_rfl) x (fun W bx q h0 h1=>ajt h0 h1));obtain⟨a,cap,rfl⟩:=fJ h.row;clear h;go_enter func173,ntmps173;go_wp2_with fail;refine HD.out.mono ?_;rintro e w1 ⟨u,rfl,q⟩;have HQ:=bC q;clear q HD;go_wp2_with fail;go_ret;exact⟨_,rfl,HQ.out⟩
theorem Ob(h:uz w pk v l)(n:Nat):Calls prog 122 #[v,Im (n:Int)] w fun e w'=>∃u,e=.returned u/\w'.ownsRow 0 163 1 u (eY l n).length (dD pk (eY l n))/\w.grownBy w' v.ownBlock/\(∀k,u.ownBlock=some k->v.ownBlock=some k):=by
 have HD:=bC (h.delete (f:=176) (p:=fun q=>decide ((q:Int)<(n:Int))) (fun args w=>by kernel_rfl) n (fun W bx q h0 h1=>abB h0 h1));obtain⟨a,cap,rfl⟩:=fJ h.row;clear h;go_enter func122,ntmps122;go_wp2_with fail;refine HD.out.mono ?_;rintro e w1 ⟨u,rfl,q⟩;have HQ:=bC q;clear q HD;go_wp2_with fail;go_ret;exact⟨_,rfl,HQ.out⟩
end
section
variable {w w' w2:World}{tag:Nat->Nat}{L R cap:Nat}{pk:Nat->Nat}{cv:Value}{ρ:bW}{s:aO}
theorem bg.own(h:bg w tag L R pk cv cap ρ s){t:Nat}{l:List Nat}(ht:2<=t)(h1:(ρ t).1=163/\(ρ t).2.2=dD pk l)(hm:∀q∈l,q<s.all.length)(hl:l.length<=1000000000000000):uz w pk (ρ t).2.1 l:=by
 obtain⟨r1,r2⟩:=h.rows.each t ht;rw[h1.1,h1.2]at r1;refine⟨by simpa [dD]using r1,hl,fun q hq=>?_,fun q hq e=>?_⟩
 .have mM:=hm q hq;exact(h.mg q s.all[q] (by simp)).l9 (j:=0) rfl
 .have:=r2 _ e;have:=(h.ni q (hm q hq)).1;omega
theorem bg.gu(h:bg w tag L R pk cv cap ρ s){i j:Nat}{r:Lr}{u:Value}(hi:s.ah[i]? =some r)(hj:(Dy i (ρ (5+3 * i)).2.1 (ρ (6+3 * i)).2.1 (ρ (7+3 * i)).2.1 r)[j]? =some u):w.cell? (Ad R (i * 8+j))=some u:=h.rd i r hi j u hj
theorem bg.dL(h:bg w tag L R pk cv cap ρ s){j:Nat}{u:Value}(hj:(qO cv (.slice (some (Ad R 0)) s.ah.length cap) (ρ 2).2.1 (ρ 3).2.1 (ρ 4).2.1 s)[j]? =some u):w.cell? (Ad L j)=some u:=h.lk.l9 hj
def xJ(R:Nat):Option Nat->Value
 |none=>.pointer none
 |some i=>Pt R (i * 8)
theorem II{id:Int}{i:Nat}(h:sH s id=some i):i<s.ah.length/\id=(i:Int):=by
 unfold sH at h;split at h
 .cases h
 .cases h;omega
theorem La(h:bg w tag L R pk cv cap ρ s)(id:Int):Calls prog 78 #[Pt L 0,Im id] w fun e w'=>e=.returned (xJ R (sH s id))/\w'=w:=by
 have c9:w.cell? (Ad L 9)=some (.slice (some (Ad R 0)) s.ah.length cap):=h.dL rfl;have hr4:=h.ok.ah;clear h;unfold sH;generalize s.ah.length=n at *;by_cases h1:id<0
 .rw[if_pos (Or.inl h1)];have d1:decide (id<0)=true:=decide_eq_true h1;go_enter func78,ntmps78;go_wp2_with fail;go_ret;exact⟨rfl,rfl⟩
 .have d1:decide (id<0)=false:=decide_eq_false h1;by_cases h2:(n:Int)<=id
  .rw[if_pos (Or.inr h2)];have d2:decide ((n:Int)<=id)=true:=decide_eq_true h2;go_enter func78,ntmps78;go_wp2_with fail;go_ret;exact⟨rfl,rfl⟩
  .rw[if_neg (by omega)];have d2:decide ((n:Int)<=id)=false:=decide_eq_false h2;obtain⟨i,rfl⟩:∃i:Nat,id=(i:Int):=⟨id.toNat,by omega⟩;have i0:(0:Int)<=(i:Int):=by omega
   have i1:(i:Int)<(n:Int):=by omega
   go_enter func78,ntmps78;go_wp2_with fail;go_ret;exact⟨by simp[xJ],rfl⟩
theorem aaJ(h:bg w tag L R pk cv cap ρ s):Calls prog 124 #[Pt L 16] w fun e w'=>e=.returned (.tuple #[])/\bg w' tag L R pk cv cap ρ {s with quiet:=-1}/\Lf w tag w' tag:=by
 have c:w.cell? (Ad L 16)=some (Im s.quiet):=h.dL rfl;have fz:=h.fz L h.fO;have HE:=bC (h.dF (j:=16) (u:=Im (-1)) (by have:=rZ cv (.slice (some (Ad R 0)) s.ah.length cap) (ρ 2).2.1 (ρ 3).2.1 (ρ 4).2.1 s;omega) (s':={s with quiet:=-1}) ⟨h.aU.aG,h.aU.aP,h.aU.aJ,h.aU.aT,h.aU.aX,h.aU.aQ⟩ ⟨h.ok.aG,h.ok.aP,h.ok.aJ,h.ok.aQ,h.ok.kept,h.ok.turn,h.ok.ah⟩ rfl rfl rfl);clear h;go_enter func124,ntmps124;go_wp2_with fail;go_end0;exact⟨rfl,HE.out⟩
def Hx.aO.fA(s:aO):aO×Bool:=if s.quiet+1<8 then ({s with quiet:=s.quiet+1},false)else ({s with quiet:=0},true)
theorem bg.XQ(h:bg w tag L R pk cv cap ρ s)(x:Int):bg (w.setCell (Ad L 16) (Im x)) tag L R pk cv cap ρ {s with quiet:=x}/\Lf w tag (w.setCell (Ad L 16) (Im x)) tag:=
 h.dF (j:=16) (u:=Im x) (by have:=rZ cv (.slice (some (Ad R 0)) s.ah.length cap) (ρ 2).2.1 (ρ 3).2.1 (ρ 4).2.1 s;omega) (s':={s with quiet:=x}) ⟨h.aU.aG,h.aU.aP,h.aU.aJ,h.aU.aT,h.aU.aX,h.aU.aQ⟩ ⟨h.ok.aG,h.ok.aP,h.ok.aJ,h.ok.aQ,h.ok.kept,h.ok.turn,h.ok.ah⟩ rfl rfl rfl
theorem aiP(h:bg w tag L R pk cv cap ρ s)(hq: -1<=s.quiet/\s.quiet<=1000):Calls prog 76 #[Pt L 16] w fun e w'=>e=.returned (.bool s.fA.2)/\bg w' tag L R pk cv cap ρ s.fA.1/\Lf w tag w' tag:=by
 have c:w.cell? (Ad L 16)=some (Im s.quiet):=h.dL rfl;have fz:=h.fz L h.fO;obtain⟨e1,e2⟩:=h.XQ (s.quiet+1);have HE:=bC (And.intro e1 e2);obtain⟨e3,e4⟩:=e1.XQ 0;have HE2:=bC (And.intro e3 (e2.trans e4));clear h e1 e2 e3 e4;unfold Hx.aO.fA;by_cases hk:s.quiet+1<8
 .rw[if_pos hk];have d:decide (s.quiet+1<8)=true:=decide_eq_true hk;generalize s.quiet=x at *;go_enter func76,ntmps76;go_wp2_with fail;go_ret;exact⟨rfl,HE.out⟩
 .rw[if_neg hk];have d:decide (s.quiet+1<8)=false:=decide_eq_false hk;generalize s.quiet=x at *;go_enter func76,ntmps76;go_wp2_with fail;go_ret;exact⟨rfl,HE2.out⟩
theorem abJ(h:bg w tag L R pk cv cap ρ s){i:Nat}{r:Lr}(hi:s.ah[i]? =some r)(hc:r.cO<=1000):Calls prog 81 #[Pt R (i * 8)] w fun e w'=>e=.returned (.tuple #[])/\bg w' tag L R pk cv cap ρ {s with ah:=s.ah.set i r.grow}/\Lf w tag w' tag:=by
 have c2:w.cell? (Ad R (i * 8+2))=some (Im (r.cO:Int)):=h.gu hi rfl;have c4:w.cell? (Ad R (i * 8+4))=some (.bool r.nX):=h.gu hi rfl;have fz:=h.fz R h.lM;have hil:=(List.getElem?_eq_some_iff.1 hi).1;obtain⟨e1,e2⟩:=h.DK (i:=i) (j:=2) (r':={r with cO:=min (r.cO+1) 8}) (u:=Im ((min (r.cO+1) 8:Nat):Int)) hi (by omega) rfl rfl rfl rfl;obtain⟨e3,e4⟩:=e1.DK (i:=i) (j:=4) (r:={r with cO:=min (r.cO+1) 8}) (r':=r.grow) (u:=.bool false) (by show(s.ah.set i _)[i]? =_;rw[List.getElem?_set_self hil]) (by omega) rfl rfl rfl rfl;have e5:({s with ah:=(s.ah.set i {r with cO:=min (r.cO+1) 8}).set i r.grow}:aO)={s with ah:=s.ah.set i r.grow}:=by rw[List.set_set]
 have HE:Hid (bg ((w.setCell (Ad R (i * 8+2)) (Im ((min (r.cO+1) 8:Nat):Int))).setCell (Ad R (i * 8+4)) (.bool false)) tag L R pk cv cap ρ {s with ah:=s.ah.set i r.grow}/\Lf w tag ((w.setCell (Ad R (i * 8+2)) (Im ((min (r.cO+1) 8:Nat):Int))).setCell (Ad R (i * 8+4)) (.bool false)) tag):=⟨by rw[<-e5];exact e3,e2.trans e4⟩;clear h e1 e2 e3 e4 e5;have hmin:((min (r.cO+1) 8:Nat):Int)=min ((r.cO:Int)+1) 8:=by omega
 rw[hmin]at HE;clear hmin;go_enter func81,ntmps81;go_wp2_with fail;go_end0;exact⟨rfl,HE.out⟩
theorem Fq{i:Nat}{r r':Lr}(hi:s.ah[i]? =some r):(s.ah.set i r')[i]? =some r':=List.getElem?_set_self (List.getElem?_eq_some_iff.1 hi).1
theorem adD(h:bg w tag L R pk cv cap ρ s){i:Nat}{r:Lr}(hi:s.ah[i]? =some r)(hl:r.aQ.length<=1000000000000000)(n:Nat):Calls prog 123 #[Pt R (i * 8),Im (n:Int)] w fun e w'=>e=.returned (.tuple #[])/\∃tag' ρ',bg w' tag' L R pk cv cap ρ' {s with ah:=s.ah.set i (r.fD n)}/\Lf w tag w' tag':=by
 have c7:w.cell? (Ad R (i * 8+7))=some (ρ (7+3 * i)).2.1:=h.gu hi rfl;have hown:=h.own (t:=7+3 * i) (by omega) (h.aU.aQ i r hi) (h.ok.aQ i r hi) hl;have HF:=bC (Ob hown n);obtain⟨va,vc,hv⟩:=fJ hown.row;have HP:Hid (∀w1 u,w1.ownsRow 0 163 1 u (eY r.aQ n).length (dD pk (eY r.aQ n))->w.grownBy w1 (ρ (7+3 * i)).2.1.ownBlock->(∀k,u.ownBlock=some k->(ρ (7+3 * i)).2.1.ownBlock=some k)->
  ∃tag' ρ',bg (w1.setCell (Ad R (i * 8+7)) u) tag' L R pk cv cap ρ' {s with ah:=s.ah.set i {r with aQ:=eY r.aQ n}}/\(ρ' (7+3 * i)).2.1=u/\Lf w tag (w1.setCell (Ad R (i * 8+7)) u) tag'/\(∃x,w1.cell? (Ad R (i * 8+7))=some x)/\w1.frozen? (Ad R (i * 8+7))=false):=fun w1 u q1 q2 q3=>by
  have e7:5+3 * i+2=7+3 * i:=by omega
  have hp:=h.IC (i:=i) (d:=2) (r:=r) (r':={r with aQ:=eY r.aQ n}) (T:=163) (u:=u) (us:=dD pk (eY r.aQ n)) (w':=w1) hi (by omega) (by rw[e7];exact q2) (by simpa [dD]using q1) (fun g hg=>Or.inl (by rw[e7];exact q3 g hg))
   (by rw[bW.eU _ _ (by omega)];exact h.aU.aT i r hi) (by rw[bW.eU _ _ (by omega)];exact h.aU.aX i r hi) (by rw[<-e7,bW.pY];exact⟨rfl,rfl⟩)
   (fun q hq=>h.ok.aQ i r hi q ((List.mem_filter.1 hq).1)) (by rw[bW.eU _ _ (by omega),bW.eU _ _ (by omega),<-e7,bW.pY];rfl)
  obtain⟨p1,p2,p3,p4⟩:=hp;exact⟨_,_,p1,by rw[<-e7,bW.pY],p2,p3,p4⟩
 have HQ:Hid (∀w1 tag' ρ' u,bg w1 tag' L R pk cv cap ρ' {s with ah:=s.ah.set i {r with aQ:=eY r.aQ n}}->(ρ' (7+3 * i)).2.1=u->w1.cell? (Ad R (i * 8+7))=some u/\(∃a c,u=.slice a (eY r.aQ n).length c)/\(∃x,w1.cell? (Ad R (i * 8+3))=some x)/\(∀j,w1.frozen? (Ad R j)=false)/\
  bg (w1.setCell (Ad R (i * 8+3)) (Im ((eY r.aQ n).length:Int))) tag' L R pk cv cap ρ' {s with ah:=s.ah.set i (r.fD n)}/\Lf w1 tag' (w1.setCell (Ad R (i * 8+3)) (Im ((eY r.aQ n).length:Int))) tag'):=fun w1 tag' ρ' u h1 hu=>by
  have hi1:(s.ah.set i {r with aQ:=eY r.aQ n})[i]? =some {r with aQ:=eY r.aQ n}:=Fq hi;subst hu;obtain⟨e3,e4⟩:=h1.DK (i:=i) (j:=3) (r:={r with aQ:=eY r.aQ n}) (r':=r.fD n) (u:=Im ((eY r.aQ n).length:Int)) hi1 (by omega) rfl rfl rfl rfl;have e5:({s with ah:=(s.ah.set i {r with aQ:=eY r.aQ n}).set i (r.fD n)}:aO)={s with ah:=s.ah.set i (r.fD n)}:=by rw[List.set_set]
  obtain⟨r1,r2⟩:=h1.rows.each (7+3 * i) (by omega);have r3:=(h1.aU.aQ i _ hi1).2;rw[r3]at r1;obtain⟨a,c,ha⟩:=fJ r1;exact⟨h1.gu hi1 rfl,⟨a,c,by simpa [dD]using ha⟩,⟨_,h1.gu hi1 (j:=3) rfl⟩,fun j=>h1.fz R h1.lM j,by rw[<-e5];exact e3,e4⟩
 rw[hv]at c7 HF;clear h hown;go_enter func123,ntmps123;go_wp2_with fail;refine HF.out.mono ?_;rintro e w1 ⟨u,rfl,q1,q2,q3⟩;obtain⟨y9,ρ1,p1,p2,p3,⟨x,p4⟩,p5⟩:=HP.out w1 u q1 (by rw[hv];exact q2) (by rw[hv];exact q3);obtain⟨k1,⟨a,c,rfl⟩,⟨y,k2⟩,k3,k4,k5⟩:=HQ.out _ y9 ρ1 u p1 p2;have HE:=bC (And.intro k4 (p3.trans k5));clear q1 q2 q3 p1 p2 p3 k4 k5 HP HQ HF hv;generalize hfl:(eY r.aQ n).length=fl at *;go_wp2_with fail;go_end0;exact⟨rfl,y9,ρ1,HE.out⟩
theorem aei(h:bg w tag L R pk cv cap ρ s){i:Nat}{r:Lr}(hi:s.ah[i]? =some r)(hl:r.aQ.length<=1000000000000000)(hc:r.cO<=1000):Calls prog 106 #[Pt R (i * 8)] w fun e w'=>∃v ρ',e=.returned v/\bg w' tag L R pk cv cap ρ' {s with ah:=s.ah.set i r.fU}/\Lf w tag w' tag/\uz w' pk v r.aQ/\(∀g,v.ownBlock=some g->tag g=7+3 * i)/\(ρ' (7+3 * i)).2.1=Nl:=by
 have c7:w.cell? (Ad R (i * 8+7))=some (ρ (7+3 * i)).2.1:=h.gu hi rfl;have c3:w.cell? (Ad R (i * 8+3))=some (Im (r.out:Int)):=h.gu hi rfl;have c2:w.cell? (Ad R (i * 8+2))=some (Im (r.cO:Int)):=h.gu hi rfl;have c4:w.cell? (Ad R (i * 8+4))=some (.bool r.nX):=h.gu hi rfl;have fz:=h.fz R h.lM;have hown:=h.own (t:=7+3 * i) (by omega) (h.aU.aQ i r hi) (h.ok.aQ i r hi) hl;have rW:=(h.rows.each (7+3 * i) (by omega)).2;obtain⟨va,vc,hv⟩:=fJ hown.row;have HE:Hid (∃ρ',bg ((((w.setCell (Ad R (i * 8+7)) (Nl)).setCell (Ad R (i * 8+3)) (Im 0)).setCell (Ad R (i * 8+2)) (Im ((max (r.cO/2) 1:Nat):Int))).setCell (Ad R (i * 8+4)) (.bool (decide (0<r.aQ.length)))) tag L R pk cv cap ρ' {s with ah:=s.ah.set i r.fU}/\Lf w tag ((((w.setCell (Ad R (i * 8+7)) (Nl)).setCell (Ad R (i * 8+3)) (Im 0)).setCell (Ad R (i * 8+2)) (Im ((max (r.cO/2) 1:Nat):Int))).setCell (Ad R (i * 8+4)) (.bool (decide (0<r.aQ.length)))) tag/\uz ((((w.setCell (Ad R (i * 8+7)) (Nl)).setCell (Ad R (i * 8+3)) (Im 0)).setCell (Ad R (i * 8+2)) (Im ((max (r.cO/2) 1:Nat):Int))).setCell (Ad R (i * 8+4)) (.bool (decide (0<r.aQ.length)))) pk (ρ (7+3 * i)).2.1 r.aQ/\(ρ' (7+3 * i)).2.1=Nl):=by
  have e7:5+3 * i+2=7+3 * i:=by omega
  have hrt:qF tag (Nl) (7+3 * i)=tag:=by
   funext k
   unfold qF;rw[if_neg (by simp[Value.ownBlock])]
  have hp:=h.IC (i:=i) (d:=2) (r:=r) (r':={r with aQ:=[]}) (T:=163) (u:=Nl) (us:=[]) (w':=w) hi (by omega) (World.grownBy.refl _ _) (World.ownsRow_nil _ _ _ _) (fun g hg=>by cases hg)
   (by rw[bW.eU _ _ (by omega)];exact h.aU.aT i r hi) (by rw[bW.eU _ _ (by omega)];exact h.aU.aX i r hi) (by rw[<-e7,bW.pY];exact⟨rfl,rfl⟩)
   (fun q hq=>by simp at hq) (by rw[bW.eU _ _ (by omega),bW.eU _ _ (by omega),<-e7,bW.pY];rfl)
  obtain⟨p1,p2,_,_⟩:=hp;rw[e7,hrt]at p1 p2;have hi1:(s.ah.set i {r with aQ:=[]})[i]? =some {r with aQ:=[]}:=Fq hi;obtain⟨a1,a2⟩:=p1.DK (i:=i) (j:=3) (r:={r with aQ:=[]}) (r':={r with aQ:=[],out:=0}) (u:=Im 0) hi1 (by omega) rfl rfl rfl rfl;have s1:({s with ah:=(s.ah.set i {r with aQ:=[]}).set i {r with aQ:=[],out:=0}}:aO)={s with ah:=s.ah.set i {r with aQ:=[],out:=0}}:=by rw[List.set_set]
  rw[s1]at a1;have hi2:(s.ah.set i {r with aQ:=[],out:=0})[i]? =some {r with aQ:=[],out:=0}:=Fq hi;obtain⟨b1,b2⟩:=a1.DK (i:=i) (j:=2) (r:={r with aQ:=[],out:=0}) (r':={r with aQ:=[],out:=0,cO:=max (r.cO/2) 1}) (u:=Im ((max (r.cO/2) 1:Nat):Int)) hi2 (by omega) rfl rfl rfl rfl;have s2:({s with ah:=(s.ah.set i {r with aQ:=[],out:=0}).set i {r with aQ:=[],out:=0,cO:=max (r.cO/2) 1}}:aO)={s with ah:=s.ah.set i {r with aQ:=[],out:=0,cO:=max (r.cO/2) 1}}:=by rw[List.set_set]
  rw[s2]at b1;have hi3:(s.ah.set i {r with aQ:=[],out:=0,cO:=max (r.cO/2) 1})[i]? =some {r with aQ:=[],out:=0,cO:=max (r.cO/2) 1}:=Fq hi;obtain⟨d1,d2⟩:=b1.DK (i:=i) (j:=4) (r:={r with aQ:=[],out:=0,cO:=max (r.cO/2) 1}) (r':=r.fU) (u:=.bool (decide (0<r.aQ.length))) hi3 (by omega) rfl rfl rfl rfl;have s3:({s with ah:=(s.ah.set i {r with aQ:=[],out:=0,cO:=max (r.cO/2) 1}).set i r.fU}:aO)={s with ah:=s.ah.set i r.fU}:=by rw[List.set_set]
  rw[s3]at d1;refine⟨_,d1,((p2.trans a2).trans b2).trans d2,?_,by rw[bW.pY]⟩;have hgw:w.grownBy ((((w.setCell (Ad R (i * 8+7)) (Nl)).setCell (Ad R (i * 8+3)) (Im 0)).setCell (Ad R (i * 8+2)) (Im ((max (r.cO/2) 1:Nat):Int))).setCell (Ad R (i * 8+4)) (.bool (decide (0<r.aQ.length)))) (some R):=(((dV w R _ _).trans (dV _ R _ _)).trans (dV _ R _ _)).trans (dV _ R _ _);refine⟨hown.row.kept hgw ?_,hl,fun q hq=>hgw.cell (hown.mg q hq) ?_,hown.ne⟩
  .cases hb:(ρ (7+3 * i)).2.1.ownBlock with
   |none=>exact Or.inl rfl
   |some k=>
    right;intro e;cases e;have:=rW R hb;rw[h.lM]at this;omega
  .have:=(h.ni q (h.ok.aQ i r hi q hq)).2.2;simp only[ne_eq,Option.some.injEq];omega
 have HT:=bC rW;have hmx:((max (r.cO/2) 1:Nat):Int)=max ((r.cO:Int)/2) 1:=by omega
 rw[hmx]at HE;have HV:Hid ((ρ (7+3 * i)).2.1=.slice va r.aQ.length vc):=hv;rw[hv]at c7;clear h hown rW hmx hv;generalize r.aQ.length=nl at *;go_enter func106,ntmps106;go_wp2_with fail;go_ret;obtain⟨ρ',z1,z2,z3,z4⟩:=HE.out;refine⟨.slice va nl vc,ρ',rfl,z1,z2,?_,?_,z4⟩
 .rw[<-HV.out];exact z3
 .rw[<-HV.out];exact HT.out
end
end
end Go.Proofs.YthllhabjfchgiaaGreatDoor
