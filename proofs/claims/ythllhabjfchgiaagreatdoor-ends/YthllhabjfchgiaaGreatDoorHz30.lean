import Derived.Test.YthllhabjfchgiaaGreatDoorHz29
set_option maxRecDepth 100000
set_option maxHeartbeats 8000000
namespace Go.Proofs.YthllhabjfchgiaaGreatDoor
open _root_.Go.Proofs.Tryz
section
open Go.RowKit Hx
attribute [local go_sem ↓] Go.wp_at_zero Go.wp_at_succ
attribute [local go_sem] bT
section
variable {w w' w1 w2:World}{C lo hi b S:Nat}{c:Co}{u:Value}{e l r:Ex}{a:Int}{T:TypeId}{x:Sx}
theorem OY(he:dJ e)(t:ByteArray)(one:Int):(c.inside t e.does one).1.au=c.au:=by
 unfold Co.inside Co.cut;simp only[he.au,Co.know];simp
theorem OX(he:dJ e)(t:ByteArray)(one:Int)(hk:e.aj<=1000000):((c.inside t e.does one).1.code.length:Int)<=c.code.length+200 * e.aj+50:=he.len (c.know t one) (-1) hk
theorem aV.back(h:aV w C c){n:Nat}(hn:n<=c.au.length):∃a cap,w.cell? (Ad C 1)=some (.slice a c.au.length cap)/\c.au.length<=cap/\(∀j,w.frozen? (Ad C j)=false)/\aV (w.setCell (Ad C 1) (.slice a n cap)) C (c.cut n)/\Gk w (w.setCell (Ad C 1) (.slice a n cap)) C:=by
 obtain⟨v,nv,h⟩:=h;obtain⟨a,cap,rfl⟩:=fJ h.au;have hcut:=h.cut hn;refine⟨a,cap,aA h.aW,?_,fun j=>eu h.aW,⟨v,_,hcut.1⟩,hcut.2⟩;rcases h.au with⟨_,⟨h2,h3⟩|⟨g,cap',cur,h2,_,_,h5,_⟩⟩
 .rw[h3];exact Nat.zero_le _
 .cases h2;exact h5
theorem TY(he:dJ e)(hh:e.here e.at' w lo hi u)(hC:hi<=C)(hc:aV w C c)(hr:lQ c (e.aj+1))(t:ByteArray)(ta one:Int):
 Calls prog 352 #[Pt C 0,.agg #[.string t,Im ta,u],Im one] w fun en w'=>en=.returned (Im (c.inside t e.does one).2)/\aV w' C (c.inside t e.does one).1/\Gk w w' C:=by
 have uH:=hc.lt;have ec:=he.ok.aj;obtain⟨T1,b1,rfl,_⟩:=he.ok.head _ _ _ _ _ hh;have g0:∀o,w.grownBy (w.alloc o) none:=fun o=>World.grownBy_alloc w o none;have hnl:c.au.length<=3000000:=by have:=hr.au;omega
 have HN:Hid (∀o,Calls prog 324 #[Pt C 0,.agg #[.string t,Im ta],Im one] (w.alloc o) fun en w'=>en=.returned (.tuple #[])/\aV w' C (c.know t one)/\zx w' C w.heap.size o/\Gk w w' C):=fun o=>(Oc (hc.grow (g0 o)) t ta one (by omega)).mono fun en w' ⟨q1,q2,q3⟩=>⟨q1,q2,(zx.new hc o).gk q3,(Gk.grown (g0 o) uH).trans q3⟩;have HA:Hid (dJ e/\hi<=C/\e.here e.at' w lo hi (.iface T1 (Pt b1 0))/\lQ (c.know t one) e.aj):=⟨he,hC,hh,by have:=hr.aj;omega,by have:=hr.code;show(c.code.length:Int)+_<=_;omega,by have:=hr.au;show((c.au++[(t,one)]).length:Int)+_<=_;simp only[List.length_append,List.length_cons,List.length_nil];omega⟩;have hkn:(e.does.bJ (c.know t one) (-1)).1.au.length=c.au.length+1:=by rw[he.au];simp[Co.know]
 obtain⟨a0,cap0,c1,_⟩:=hc.back (n:=0) (Nat.zero_le _);have n0:¬C=w.heap.size:=by omega
 clear hh hc hr he;unfold Co.inside;generalize akb:c.au.length=nl at *;generalize hgv:e.does.bJ (c.know t one) (-1)=gv at *;have YZ:Hid (e.does.bJ (c.know t one) (-1)=gv):=hgv;clear hgv;obtain⟨gc,gs⟩:=gv;simp only at hkn⊢;go_enter func352,ntmps352;go_wp2_with fail;refine(HN.out _).mono ?_;rintro en w1 ⟨rfl,p1,bx1,q1⟩;have x2:w1.cell? (Ad w.heap.size 2)=some (.iface T1 (Pt b1 0)):=aA bx1.at';obtain⟨f1,m1,dU,H1⟩:=HA.out.1.bJ _ _ _ _ _ _ C (c.know t one) (-1) ((HA.out.1.ok.law _).gk HA.out.2.2.1 q1 HA.out.2.1) HA.out.2.1 p1 HA.out.2.2.2;have dU:∀args w,(callFunc f1 args).run prog w=.ok (.enter f1 args) w:=dU;rw[YZ.out]at H1;have H1:Hid (Calls prog f1 #[Pt b1 0,Pt C 0,Im (-1)] w1 fun en w'=>en=.returned (Im gs)/\aV w' C gc/\Gk w1 w' C):=H1;have eG:Hid (Gk w w1 C):=q1;clear p1 q1 bx1 HN;go_wp2_with fail;refine H1.out.mono ?_;rintro en w2 ⟨rfl,p2,q2⟩;obtain⟨a2,cap2,y1,y2,fz,y3,y4⟩:=p2.back (n:=nl) (by omega);rw[hkn]at y1 y2;have HE:Hid (aV (w2.setCell (Ad C 1) (.slice a2 nl cap2)) C (gc.cut nl)/\Gk w (w2.setCell (Ad C 1) (.slice a2 nl cap2)) C):=⟨y3,(eG.out.trans q2).trans y4⟩;clear p2 q2 y3 y4 H1 eG;have i0:(0:Int)<=(nl:Int):=by omega
 have i1:(nl:Int)<=(cap2:Int):=by omega
 go_wp2_with fail;go_ret;exact⟨rfl,HE.out⟩
theorem Oe(h:w.heap[S]? =some (.cells #[Im x.at',Im x.aj,.string x.base,Im x.of,u] 348)):Calls prog 348 #[Pt S 0] w fun e w'=>e=.returned (Im (bZ x.base))/\w'=w:=by
 have c2:w.cell? (Ad S 2)=some (.string x.base):=aA h;clear h;unfold bZ;rw[<-ByteArray.toList_eq];cases h1:(x.base.toList==[70,82,69,83,72])with
 |true=>
  go_enter func348,ntmps348;go_wp2;go_ret;exact⟨rfl,rfl⟩
 |false=>
  cases h2:(x.base.toList==[65,71,65,73,78])with
  |true=>
   go_enter func348,ntmps348;go_wp2;go_ret;exact⟨rfl,rfl⟩
  |false=>
   go_enter func348,ntmps348;go_wp2;go_ret;exact⟨rfl,rfl⟩
def zM(one:Int)(c:Co)(b:Wd×Ex):Co:=((c.inside b.1.text b.2.does one).1.lay 5 [(c.inside b.1.text b.2.does one).2]).dw c.free
theorem N7(one:Int){b:Wd×Ex}(h:dJ b.2):(zM one c b).au=c.au:=OY h _ _
theorem abq(one:Int){b:Wd×Ex}(h:dJ b.2)(hk:b.2.aj<=1000000):((zM one c b).code.length:Int)<=c.code.length+200 * (1+b.2.aj):=by
 have h1:=OX (c:=c) h b.1.text one hk;have h2:=kG (c.inside b.1.text b.2.does one).1 5 [(c.inside b.1.text b.2.does one).2];simp only[List.length_cons,List.length_nil]at h2;show(((c.inside b.1.text b.2.does one).1.lay 5 [(c.inside b.1.text b.2.does one).2]).code.length:Int)<=_;omega
theorem abr(one:Int)(fs:List (Wd×Ex))(c:Co)(i:Nat)(b:Wd×Ex)(h:fs[i]? =some b):Co.aH one (fs.take (i+1)) c=zM one (Co.aH one (fs.take i) c) b:=by
 have h1:fs.take (i+1)=fs.take i++[b]:=by rw[List.take_add_one,h];rfl
 rw[h1];unfold Co.aH;rw[List.foldl_append]
 rfl
theorem DN{fs:List (Wd×Ex)}(h:∀b∈fs,0<=b.2.aj):0<=(fs.map fun b=>1+b.2.aj).sum:=by
 induction fs with
 |nil=>simp
 |cons b fs ih=>
  have:=ih fun c hc=>h c (List.mem_cons_of_mem _ hc);have:=h b (List.mem_cons_self ..);simp only[List.map_cons,List.sum_cons];omega
theorem QA{fs:List (Wd×Ex)}(h:∀b∈fs,0<=b.2.aj):∀(i:Nat)(b:Wd×Ex),fs[i]? =some b->((fs.take i).map fun b=>1+b.2.aj).sum+(1+b.2.aj)<=(fs.map fun b=>1+b.2.aj).sum:=by
 induction fs with
 |nil=>intro i b hb;simp at hb
 |cons b0 fs ih=>
  have h0:=h b0 (List.mem_cons_self ..);have h1:∀b∈fs,0<=b.2.aj:=fun c hc=>h c (List.mem_cons_of_mem _ hc);intro i b hb;cases i with
  |zero=>
   simp only[List.getElem?_cons_zero,Option.some.injEq]at hb;subst hb;have:=DN h1;simp only[List.take_zero,List.map_nil,List.sum_nil,List.map_cons,List.sum_cons];omega
  |succ i=>
   have:=ih h1 i b (by simpa using hb);simp only[List.take_succ_cons,List.map_cons,List.sum_cons];omega
theorem J3(one:Int):∀(fs:List (Wd×Ex))(c:Co),(∀b∈fs,dJ b.2)->(∀b∈fs,b.2.aj<=1000000)->(Co.aH one fs c).au=c.au/\((Co.aH one fs c).code.length:Int)<=c.code.length+200 * (fs.map fun b=>1+b.2.aj).sum
 |[],c,_,_=>by simp[Co.aH]
 |b::fs,c,h,hk=>by
  have h0:=h b (List.mem_cons_self ..);have h1:=abq (c:=c) one h0 (hk b (List.mem_cons_self ..));obtain⟨h2,h3⟩:=J3 one fs (zM one c b) (fun d hd=>h d (List.mem_cons_of_mem _ hd)) (fun d hd=>hk d (List.mem_cons_of_mem _ hd));have e:Co.aH one (b::fs) c=Co.aH one fs (zM one c b):=rfl;rw[e];refine⟨h2.trans (N7 one h0),?_⟩;simp only[List.map_cons,List.sum_cons];omega
structure qL(x:Sx):Prop where
 all:∀b∈x.aH,dJ b.2
 pos:∀b∈x.aH,0<=b.2.aj
 sum:1+(x.aH.map fun b=>1+b.2.aj).sum<=x.aj
 max:x.aj<=1000000
 len:x.aH.length<=100000
theorem qL.of{N:Nat}(hN:N<=100000)(h:nO N dJ x)(hk:x.aj<=1000000):qL x:=
 ⟨h.all,fun b hb=>(h.all b hb).ok.aj.1,h.sum hk,hk,Nat.le_trans h.len hN⟩
theorem qL.each(h:qL x):∀b∈x.aH,b.2.aj<=1000000:=fun b hb=>by
 obtain⟨i,hi,he⟩:=List.mem_iff_getElem.1 hb;have h1:=QA h.pos i b (by rw[<-he];simp);have h2:=DN (fs:=x.aH.take i) fun c hc=>h.pos c (List.mem_of_mem_take hc);have:=h.sum;have:=h.max;omega
theorem afs(h:qL x)(list:Int):(c.open' list x.aH).1.au=c.au:=(J3 _ _ _ h.all h.each).1
theorem P6(h:qL x)(list:Int):((c.open' list x.aH).1.code.length:Int)<=c.code.length+52+200 * (x.aj-1):=by
 have h1:=(J3 c.hold.2 x.aH ((c.hold.1.lay 21 [c.hold.2,list]).lay 4 [list,c.hold.2,c.hold.2]) h.all h.each).2;have h2:=kG (c.hold.1.lay 21 [c.hold.2,list]) 4 [list,c.hold.2,c.hold.2];have h3:=kG c.hold.1 21 [c.hold.2,list];have h4:=h.sum;have h5:c.hold.1.code.length=c.code.length:=rfl;simp only[List.length_cons,List.length_nil]at h2 h3;show((Co.aH c.hold.2 x.aH ((c.hold.1.lay 21 [c.hold.2,list]).lay 4 [list,c.hold.2,c.hold.2])).code.length:Int)<=_;omega
theorem JZ(h:qL x)(list:Int):((c.kN list x.aH).1.code.length:Int)<=c.code.length+95+200 * (x.aj-1):=by
 have h5:c.hold.1.code.length=c.code.length:=rfl;have h6:=h.sum;have h7:=DN h.pos;unfold Co.kN;split
 .have h3:=kG c.hold.1 21 [c.hold.2,list];simp only[List.length_cons,List.length_nil]at h3;simp only;omega
 .have h1:=P6 (c:=c.hold.1.lay 6 [c.hold.2,0]) h list;have h3:=kG c.hold.1 6 [c.hold.2,0];simp only;generalize (c.hold.1.lay 6 [c.hold.2,0]).open' list x.aH=o at *;have h2:=kG o.1 22 [c.hold.2,o.2];have h4:=kG (o.1.lay 22 [c.hold.2,o.2]) 0 [];simp only[List.length_cons,List.length_nil]at h2 h3 h4;show((((o.1.lay 22 [c.hold.2,o.2]).lay 0 []).code.length:Nat):Int)<=_;omega
theorem aft(h:qL x)(list:Int)(k:Nat):(Co.aH c.hold.2 (x.aH.take k) ((c.hold.1.lay 21 [c.hold.2,list]).lay 4 [list,c.hold.2,c.hold.2])).au=c.au/\((Co.aH c.hold.2 (x.aH.take k) ((c.hold.1.lay 21 [c.hold.2,list]).lay 4 [list,c.hold.2,c.hold.2])).code.length:Int)<=c.code.length+52+200 * ((x.aH.take k).map fun b=>1+b.2.aj).sum:=by
 have h1:=J3 c.hold.2 (x.aH.take k) ((c.hold.1.lay 21 [c.hold.2,list]).lay 4 [list,c.hold.2,c.hold.2]) (fun b hb=>h.all b (List.mem_of_mem_take hb)) (fun b hb=>h.each b (List.mem_of_mem_take hb));have h2:=kG (c.hold.1.lay 21 [c.hold.2,list]) 4 [list,c.hold.2,c.hold.2];have h3:=kG c.hold.1 21 [c.hold.2,list];have h5:c.hold.1.code.length=c.code.length:=rfl;simp only[List.length_cons,List.length_nil]at h2 h3;refine⟨h1.1,?_⟩;have:=h1.2;omega
theorem Uc(h:qL x)(hh:dF x w lo hi u)(hC:hi<=C)(hc:aV w C c)(hr:lQ c x.aj):
 Calls prog 350 #[Pt C 0,u] w fun en w'=>en=.returned (Im (c.open' (bZ x.base) x.aH).2)/\aV w' C (c.open' (bZ x.base) x.aH).1/\Gk w w' C:=by
 obtain⟨S,fv,rfl,h1,h2,hS,hrow⟩:=hh;have HP:Hid (∀k,k<=x.aH.length->(Co.aH c.hold.2 (x.aH.take k) ((c.hold.1.lay 21 [c.hold.2,bZ x.base]).lay 4 [bZ x.base,c.hold.2,c.hold.2])).au=c.au/\((Co.aH c.hold.2 (x.aH.take k) ((c.hold.1.lay 21 [c.hold.2,bZ x.base]).lay 4 [bZ x.base,c.hold.2,c.hold.2])).code.length:Int)<=c.code.length+52+200 * ((x.aH.take k).map fun b=>1+b.2.aj).sum):=fun k _=>aft h _ k;have D8:Hid (∀y,Gk w y C->Calls prog 348 #[Pt S 0] y fun e w'=>e=.returned (Im (bZ x.base))/\w'=y):=fun y hy=>Oe ((hy.aN S (by omega)).trans hS);have wU:Hid (∀y,Gk w y C->y.cell? (Ad S 4)=some fv):=fun y hy=>(hy.cell (by omega)).trans (aA hS);have HH:Hid (Calls prog 306 #[Pt C 0] w fun e w'=>e=.returned (Im c.hold.2)/\aV w' C c.hold.1/\Gk w w' C):=GK hc;have hcl:c.hold.1.code.length<=800000000:=by have:=hr.code;have:=h.sum;have:=DN h.pos;have:c.hold.1.code.length=c.code.length:=rfl;omega
 have ajW:(c.hold.1.lay 21 [c.hold.2,bZ x.base]).code.length<=800000100:=by have:=kG c.hold.1 21 [c.hold.2,bZ x.base];simp only[List.length_cons,List.length_nil]at this;omega
 obtain⟨fa,fc,hfv⟩:∃fa fc,fv=.slice fa x.aH.length fc:=by
  rcases hrow with⟨hf,rfl⟩|⟨g,cap,m,us,arr,rfl,_⟩
  .exact⟨none,0,by rw[hf];rfl⟩
  .exact⟨_,_,rfl⟩
 subst hfv;have YW:Hid (∀(k:Nat)(y:World)(hk:k<x.aH.length),Gk w y C->aV y C (Co.aH c.hold.2 (x.aH.take k) ((c.hold.1.lay 21 [c.hold.2,bZ x.base]).lay 4 [bZ x.base,c.hold.2,c.hold.2]))->
  ∃g u',fa=some (Ad g 0)/\y.cell? (Ad g (k * 3))=some (.string x.aH[k].1.text)/\y.cell? (Ad g (k * 3+1))=some (Im x.aH[k].1.at')/\y.cell? (Ad g (k * 3+2))=some u'/\(∃T b,u'=.iface T (Pt b 0))/\
   ∀o,Calls prog 352 #[Pt C 0,.agg #[.string x.aH[k].1.text,Im x.aH[k].1.at',u'],Im c.hold.2] (y.alloc o) fun en w'=>en=.returned (Im ((Co.aH c.hold.2 (x.aH.take k) ((c.hold.1.lay 21 [c.hold.2,bZ x.base]).lay 4 [bZ x.base,c.hold.2,c.hold.2])).inside x.aH[k].1.text x.aH[k].2.does c.hold.2).2)/\aV w' C ((Co.aH c.hold.2 (x.aH.take k) ((c.hold.1.lay 21 [c.hold.2,bZ x.base]).lay 4 [bZ x.base,c.hold.2,c.hold.2])).inside x.aH[k].1.text x.aH[k].2.does c.hold.2).1/\Gk w w' C):=by
  intro k y hk hy hgc;rcases hrow with⟨hf,_⟩|⟨g,cap,m,us,arr,e1,g1,g2,m1,m2,hbr,hg,harr⟩
  .rw[hf]at hk;simp at hk
  cases e1;have hget:x.aH[k]? =some x.aH[k]:=by simp
  have hQ:=h.all x.aH[k] (List.getElem_mem hk);obtain⟨l',m',u',e0,e1,e2,e3,e4,e5,e6⟩:=NK (fun b hb a=>(h.all b hb).ok.law a) hbr hget;obtain⟨z0,z1,z2⟩:=NJ _ us k _ u' hget e0;obtain⟨T1,b1,hu',_⟩:=hQ.ok.head _ _ _ _ _ e5;refine⟨g,u',rfl,(hy.cell (by omega)).trans ((aA hg).trans (harr _ _ z0)),(hy.cell (by omega)).trans ((aA hg).trans (harr _ _ z1)),(hy.cell (by omega)).trans ((aA hg).trans (harr _ _ z2)),⟨T1,b1,hu'⟩,fun o=>?_⟩;have gy:=World.grownBy_alloc y o none;have ky:=hy.trans (Gk.grown gy hgc.lt);obtain⟨q1,q2⟩:=HP.out k (by omega);have q3:=QA h.pos k _ hget;have q4:=h.sum;have q5:=h.max;have q6:=DN (fs:=x.aH.take k) fun c hc=>h.pos c (List.mem_of_mem_take hc);have q7:=hr.code;have q8:=hr.au;refine(TY hQ ((hQ.ok.law _).gk e5 ky (by omega)) (by omega) (hgc.grow gy) ⟨by omega,by omega,by rw[q1];omega⟩ x.aH[k].1.text x.aH[k].1.at' c.hold.2).mono ?_;rintro en w' ⟨r1,r2,r3⟩;exact⟨r1,r2,ky.trans r3⟩
 have Y2:Hid (∀(k:Nat)(hk:k<x.aH.length),((Co.aH c.hold.2 (x.aH.take k) ((c.hold.1.lay 21 [c.hold.2,bZ x.base]).lay 4 [bZ x.base,c.hold.2,c.hold.2])).inside x.aH[k].1.text x.aH[k].2.does c.hold.2).1.code.length<=850000000):=fun k hk=>by
  have hget:x.aH[k]? =some x.aH[k]:=by simp
  have hm:=List.getElem_mem hk;have q0:=OX (c:=Co.aH c.hold.2 (x.aH.take k) ((c.hold.1.lay 21 [c.hold.2,bZ x.base]).lay 4 [bZ x.base,c.hold.2,c.hold.2])) (h.all _ hm) x.aH[k].1.text c.hold.2 (h.each _ hm);obtain⟨_,q2⟩:=HP.out k (by omega);have q3:=QA h.pos k _ hget;have q4:=h.sum;have q5:=h.max;have q6:=DN (fs:=x.aH.take k) fun c hc=>h.pos c (List.mem_of_mem_take hc);have q7:=hr.code;omega
 have BR:Hid (∀(k:Nat)(hk:k<x.aH.length),Co.aH c.hold.2 (x.aH.take (k+1)) ((c.hold.1.lay 21 [c.hold.2,bZ x.base]).lay 4 [bZ x.base,c.hold.2,c.hold.2])=zM c.hold.2 (Co.aH c.hold.2 (x.aH.take k) ((c.hold.1.lay 21 [c.hold.2,bZ x.base]).lay 4 [bZ x.base,c.hold.2,c.hold.2])) x.aH[k]):=fun k hk=>abr _ _ _ _ _ (by simp);have HZ:Hid (∀y,aV y C (Co.aH c.hold.2 (x.aH.take x.aH.length) ((c.hold.1.lay 21 [c.hold.2,bZ x.base]).lay 4 [bZ x.base,c.hold.2,c.hold.2]))->aV y C (c.open' (bZ x.base) x.aH).1):=fun y hy=>by
  rw[List.take_of_length_le (Nat.le_refl _)]at hy;exact hy
 have hlen:=h.len;clear hS hrow hc hr HP h;show Calls prog 350 #[Pt C 0,Pt S 0] w fun en w'=>en=.returned (Im c.hold.2)/\aV w' C (c.open' (bZ x.base) x.aH).1/\Gk w w' C;generalize (c.open' (bZ x.base) x.aH).1=R at *;generalize hho:c.hold=ho at *;clear hho;obtain⟨c0,one⟩:=ho;simp only at *;generalize hls:bZ x.base=ls at *;clear hls;go_enter func350,ntmps350;go_wp2_with fail;refine HH.out.mono ?_;rintro en w1 ⟨rfl,p1,q1⟩;have qm:Hid (Calls prog 92 #[Pt C 0,.int .u8 21,.slice (some (Ad w1.heap.size 0)) 2 2] (w1.alloc (.cells #[Im one,Im ls] 3)) fun e w'=>e=.returned (.tuple #[])/\aV w' C (c0.lay 21 [one,ls])/\Gk w1 w' C):=vT p1 21 one ls (by omega);have eG:Hid (Gk w w1 C):=q1;clear p1 q1 HH;go_wp2_with fail;refine(D8.out _ eG.out).mono ?_;rintro en w1' ⟨rfl,rfl⟩;go_wp2_with fail;refine qm.out.mono ?_;rintro en w2 ⟨rfl,p2,q2⟩;have dO:Hid (Gk w w2 C):=eG.out.trans q2;have HL2:Hid (Calls prog 92 #[Pt C 0,.int .u8 4,.slice (some (Ad w2.heap.size 0)) 3 3] (w2.alloc (.cells #[Im ls,Im one,Im one] 3)) fun e w'=>e=.returned (.tuple #[])/\aV w' C ((c0.lay 21 [one,ls]).lay 4 [ls,one,one])/\Gk w2 w' C):=J7 p2 4 ls one one (by omega);clear p2 q2 qm eG;go_wp2_with fail;refine(D8.out _ dO.out).mono ?_;rintro en w2' ⟨rfl,rfl⟩;go_wp2_with fail;refine HL2.out.mono ?_;rintro en w3 ⟨rfl,p3,q3⟩;have c4:=wU.out w3 (dO.out.trans q3);have lC:Hid (aV w3 C (Co.aH one (x.aH.take 0) ((c0.lay 21 [one,ls]).lay 4 [ls,one,one]))/\Gk w w3 C):=⟨p3,dO.out.trans q3⟩;clear p3 q3 HL2 dO
 generalize (c0.lay 21 [one,ls]).lay 4 [ls,one,one]=cb at *;go_wp2_with fail;go_loopg [30] (x.aH.length+1) (fun gg i wr=>Hid (∃k:Nat,k+gg=x.aH.length+1/\k<=x.aH.length/\i=Im k/\aV wr C (Co.aH one (x.aH.take k) cb)/\Gk w wr C))
 case atStart=>exact⟨0,by omega,Nat.zero_le _,rfl,lC.out⟩
 case round=>
  obtain⟨k,hk1,hk2,rfl,hI,hG⟩:=hrel.out;clear hrel lC c4;by_cases hlt:k<x.aH.length
  .have d1:decide ((k:Int)<(x.aH.length:Int))=true:=by simp;omega
   have i0:(0:Int)<=(k:Int):=by omega
   have i1:(k:Int)<(x.aH.length:Int):=by omega
   obtain⟨g,u',hfa,k0,k1,k2,⟨T1,b1,hu'⟩,xZ⟩:=YW.out k wr hlt hG hI;subst hfa hu';have hil:=Y2.out k hlt;have HT:=BR.out k hlt;unfold zM at HT;obtain⟨va,na,hAt⟩:=hI;have f2:wr.cell? (Ad C 2)=some (Im (Co.aH one (x.aH.take k) cb).free):=aA hAt.aW;have uH:=hAt.lt;have nC:¬C=wr.heap.size:=by omega
   have HT:Hid (Co.aH one (x.aH.take (k+1)) cb=(((Co.aH one (x.aH.take k) cb).inside x.aH[k].1.text x.aH[k].2.does one).1.lay 5 [((Co.aH one (x.aH.take k) cb).inside x.aH[k].1.text x.aH[k].2.does one).2]).dw (Co.aH one (x.aH.take k) cb).free):=HT;have xZ:Hid (∀o,Calls prog 352 #[Pt C 0,.agg #[.string x.aH[k].1.text,Im x.aH[k].1.at',.iface T1 (Pt b1 0)],Im one] (wr.alloc o) fun en w'=>en=.returned (Im ((Co.aH one (x.aH.take k) cb).inside x.aH[k].1.text x.aH[k].2.does one).2)/\aV w' C ((Co.aH one (x.aH.take k) cb).inside x.aH[k].1.text x.aH[k].2.does one).1/\Gk w w' C):=xZ;obtain⟨g',hg'⟩:∃g',gk=g'+1:=⟨gk-1,by omega⟩;clear hG hAt;generalize (Co.aH one (x.aH.take k) cb).inside x.aH[k].1.text x.aH[k].2.does one=ins at *;obtain⟨ic,is⟩:=ins;simp only at hil HT xZ;generalize (Co.aH one (x.aH.take k) cb).free=fr at *;generalize x.aH[k].1.text=ft at *;generalize x.aH[k].1.at'=fat at *;go_wp2_with fail;refine(xZ.out _).mono ?_;rintro en w4 ⟨rfl,p4,q4⟩;have HL:Hid (Calls prog 92 #[Pt C 0,.int .u8 5,.slice (some (Ad w4.heap.size 0)) 1 1] (w4.alloc (.cells #[Im is] 3)) fun e w'=>e=.returned (.tuple #[])/\aV w' C (ic.lay 5 [is])/\Gk w4 w' C):=Ub p4 5 is (by omega);have nN:Hid (Gk w w4 C):=q4;clear p4 q4 xZ;go_wp2_with fail;refine HL.out.mono ?_;rintro en w5 ⟨rfl,⟨v5,Il,p5⟩,q5⟩;have d2:w5.cell? (Ad C 2)=some (Im (ic.lay 5 [is]).free):=aA p5.aW;have fz:∀j,w5.frozen? (Ad C j)=false:=fun j=>eu p5.aW
   have HE:Hid (aV (w5.setCell (Ad C 2) (Im fr)) C (Co.aH one (x.aH.take (k+1)) cb)/\Gk w (w5.setCell (Ad C 2) (Im fr)) C):=by
    rw[HT.out];exact⟨⟨v5,Il,p5.dw fr⟩,(nN.out.trans q5).trans (Gk.free _ _ _)⟩
   clear p5 q5 HL nN;go_wp2_with fail;go_roundg g'
   case measure=>omega
   case rel=>exact⟨k+1,by omega,by omega,by go_num,HE.out⟩
  .have d1:decide ((k:Int)<(x.aH.length:Int))=false:=by simp;omega
   have hke:k=x.aH.length:=by omega
   have HE:Hid (aV wr C R/\Gk w wr C):=⟨HZ.out wr (by rw[hke]at hI;exact hI),hG⟩;clear hI hG hke;go_wp2_with fail;go_ret;exact⟨rfl,HE.out⟩
end
section
variable {w w' w1 w2 w3 w4:World}{C lo hi b d m k:Nat}{c:Ck}{u v:Value}{e l r:Ex}{a:Int}{T:TypeId}{o:Obj}{x:Sx}
theorem nO.ok(h:nO 100000 (dQ d) x):fM x:=⟨h.aj,h.of,fun b hb=>(h.all b hb).ok⟩
theorem nO.law(h:nO 100000 (dQ d) x):Lawful (dF x):=IK fun b hb a=>(h.all b hb).ok.law a
theorem Z4(h:nO 100000 (dQ d) x)(kind:Int)(what:ByteArray):dQ (d+1) (Ci kind what x):=by
 refine⟨ND kind what h.ok,fun c=>?_,?_⟩
 .show(kH x.of x.aH c).au=c.au;exact Ia _ _ _ fun b hb=>(h.all b hb).au
 rintro a w lo hi T b C c ⟨b',us,hv,h1,h2,⟨u,rfl,hu⟩,hb⟩ hC hc hn;cases hv;obtain⟨S,fv,rfl,_⟩:=oG hu;have c4:w.cell? (Ad b 4)=some (Pt S 0):=aA hb;have HS:Hid (Calls prog 349 #[Pt C 0,Pt S 0] w fun en w'=>en=.returned (.tuple #[])/\dF x w' lo b (Pt S 0)/\bU w' C (kH x.of x.aH c)/\Lk w w' lo b C):=NT h hu (by omega) hc hn;have HB:Hid (w.heap[b]? =some (.cells (Im a::Im (bD [x.aj])::Im kind::[.string what,Pt S 0]).toArray 412)):=hb;refine⟨393,fun w=>by kernel_rfl,fun args w=>by kernel_rfl,?_⟩;clear hu hb hc hn h;go_enter func393,ntmps393;go_wp2_with fail;refine HS.out.mono ?_;rintro en w1 ⟨rfl,q1,q2,q3⟩;have HE:Hid (dW (Ci kind what x) a w w1 lo hi (.iface 410 (Pt b 0)) b C c):=by
  have hb2:=(q3.aN b (by omega) (Or.inr (Nat.le_refl _))).trans HB.out;exact⟨⟨b,_,rfl,h1,h2,⟨_,rfl,q1⟩,hb2⟩,aA hb2,q2,q3.wide (Nat.le_refl _) (by omega)⟩
 clear q1 q2 q3 HS;go_wp2_with fail;go_end0;exact⟨rfl,HE.out⟩
theorem aez(h:nO 100000 (dQ d) x)(kind:Int)(what:ByteArray)(t:Wd)(he:dQ d e):dQ (d+1) (tH kind what x (t,e)):=by
 obtain⟨tt,ta⟩:=t;have hnm:∀c,(kH x.of x.aH c).au=c.au:=fun c=>Ia _ _ _ fun b hb=>(h.all b hb).au;refine⟨PD kind what h.ok (b:=(⟨tt,ta⟩,e)) he.ok,fun c=>?_,?_⟩
 .show((kH x.of x.aH c).bracket tt ta e.does e.at' x.of (if what.data.toList==[97,110,121]then 2 else 1)).au=c.au;rw[SY _ _ _ _ _ _ _ he.au,hnm]
 rintro a w lo hi T b C c ⟨b',us,hv,h1,h2,⟨m,u,v,rfl,hm1,hm2,hu,hv2⟩,hb⟩ hC hc hn;cases hv;obtain⟨S,fv,rfl,s1,s2,s3⟩:=oG hu;obtain⟨T2,b2,rfl,_⟩:=he.ok.head _ _ _ _ _ hv2;have c4:w.cell? (Ad b 4)=some (Pt S 0):=aA hb;have HS:Hid (Calls prog 349 #[Pt C 0,Pt S 0] w fun en w'=>en=.returned (.tuple #[])/\dF x w' lo m (Pt S 0)/\bU w' C (kH x.of x.aH c)/\Lk w w' lo m C):=NT h hu (by omega) hc hn;have HB:Hid (w.heap[b]? =some (.cells (Im a::Im (bD [x.aj,x.round e.aj])::Im kind::[.string what,Pt S 0,.string tt,Im ta,.iface T2 (Pt b2 0)]).toArray 415)):=hb;have HC:Hid (dQ d e/\e.here e.at' w m b (.iface T2 (Pt b2 0))/\c.au.length+(d+1)<=900000/\Lawful (dF x)/\∀c,(kH x.of x.aH c).au=c.au):=⟨he,hv2,hn,h.law,hnm⟩;refine⟨396,fun w=>by kernel_rfl,fun args w=>by kernel_rfl,?_⟩;clear hu hb hc hn h hv2 he s3 hnm;obtain⟨wn,hwn⟩:∃wn:Int,wn=if what.data.toList==[97,110,121]then 2 else 1:=⟨_,rfl⟩;have Jo:Hid (wn=if what.data.toList==[97,110,121]then 2 else 1):=hwn;have hcase:((what.toList==[97,110,121])=true/\wn=2)\/((what.toList==[97,110,121])=false/\wn=1):=by
  rw[ByteArray.toList_eq,hwn];cases (what.data.toList==[97,110,121])
  .exact Or.inr ⟨rfl,rfl⟩
  .exact Or.inl ⟨rfl,rfl⟩
 clear hwn;go_enter func396,ntmps396;go_wp2_with fail;refine HS.out.mono ?_;rintro en w1 ⟨rfl,q1,q2,q3⟩;have hb1:=(q3.aN b (by omega) (Or.inr hm2)).trans HB.out;have e3:w1.cell? (Ad b 3)=some (.string what):=aA hb1;have e4:w1.cell? (Ad b 4)=some (Pt S 0):=aA hb1;have e5:w1.cell? (Ad b 5)=some (.string tt):=aA hb1;have e6:w1.cell? (Ad b 6)=some (Im ta):=aA hb1;have e7:w1.cell? (Ad b 7)=some (.iface T2 (Pt b2 0)):=aA hb1;obtain⟨S',yF,hS',_,_,s3⟩:=oG q1;cases hS';have eS:w1.cell? (Ad S 3)=some (Im x.of):=aA s3;have HK:Hid (dF x w1 lo m (Pt S 0)/\bU w1 C (kH x.of x.aH c)/\Lk w w1 lo m C):=⟨q1,q2,q3⟩;have BN:Hid (∀n,Calls prog 351 #[Pt C 0,.agg #[.string tt,Im ta,.iface T2 (Pt b2 0)],Im x.of,Im wn] (w1.drewN n) fun en w'=>en=.returned (.tuple #[])/\e.here e.at' w' m b (.iface T2 (Pt b2 0))/\bU w' C ((kH x.of x.aH c).bracket tt ta e.does e.at' x.of wn)/\Lk w1 w' m b C):=fun n=>by
  have G9:=Lk.grown (dh w1 n) q2.lt;have hh1:=(HC.out.1.ok.law _).lk ((HC.out.1.ok.law _).lk HC.out.2.1 q3 (by omega) (Or.inr (Nat.le_refl _))) G9 (by omega) (Or.inr (Nat.zero_le _));refine(Tz HC.out.1 hh1 (by omega) (q2.grow (dh w1 n)) (by rw[HC.out.2.2.2.2];exact HC.out.2.2.1) tt ta x.of wn).mono ?_;rintro en w' ⟨r1,r2,r3,r4⟩;exact⟨r1,r2,r3,(G9.all _ _).trans r4⟩
 have fP:Hid (∀w2,e.here e.at' w2 m b (.iface T2 (Pt b2 0))->bU w2 C ((kH x.of x.aH c).bracket tt ta e.does e.at' x.of wn)->Lk w1 w2 m b C->dW (tH kind what x (⟨tt,ta⟩,e)) a w w2 lo hi (.iface 413 (Pt b 0)) b C c):=fun w2 r1 r2 r3=>by
  have kk:Lk w w2 lo b C:=(HK.out.2.2.wide (Nat.le_refl _) hm2).trans (r3.wide hm1 (Nat.le_refl _));have hb2:=(kk.aN b (by omega) (Or.inr (Nat.le_refl _))).trans HB.out;rw[Jo.out]at r2;exact⟨⟨b,_,rfl,h1,h2,⟨m,_,_,rfl,hm1,hm2,HC.out.2.2.2.1.lk HK.out.1 r3 (by omega) (Or.inl (Nat.le_refl _)),r1⟩,hb2⟩,aA hb2,r2,kk.wide (Nat.le_refl _) (by omega)⟩
 clear q1 q2 q3 hb1 s3 HS;rcases hcase with⟨t1,rfl⟩|⟨t1,rfl⟩;all_goals
  go_wp2_with fail;refine fC 13 (by kernel_rfl) (by kernel_rfl) ?_;simp only[List.take_succ_cons,List.take_zero,List.drop_succ_cons,List.drop_zero];repeat (go_big_quiet_step (fail))
  refine wpQuiet_nil ?_;intro _ hw';obtain⟨n3,hw''⟩:=hw';subst hw'';go_wp2_with fail;refine(BN.out _).mono ?_;rintro en w2 ⟨rfl,r1,r2,r3⟩;have HE:=fP.out w2 r1 r2 r3;have HE:Hid (dW (tH kind what x (⟨tt,ta⟩,e)) a w w2 lo hi (.iface 413 (Pt b 0)) b C c):=HE;clear r1 r2 r3;go_wp2_with fail;go_end0;exact⟨rfl,HE.out⟩
theorem dQ.up(h:dQ d e):dQ (d+1) e:=⟨h.ok,h.au,fun a w lo hi T b C c hh hC hc hn=>h.look a w lo hi T b C c hh hC hc (by omega)⟩
theorem aeb(N:Nat)(hN:N<=100000)(d:Nat):zu N (dQ d) (dQ (d+1)) where
 aj:=fun _ h=>h.ok.aj
 number:=fun a n=>aeV _ a n
 sK:=fun a b=>ai0 _ a b
 none:=V8 _
 register:=fun a i=>agP _ a i
 use:=fun a t=>ajg _ a t
 rF:=fun _ a h=>(ajq h a).up
 isNone:=fun a _ h=>(ads h a).up
 minus:=fun a sign _ _ h=>Wq h a 1 sign
 not:=fun a sign _ _ h=>Wq h a 2 sign
 two:=fun a sign _ _ h k=>ai5 h k a _ sign
 property:=fun a _ t h=>afX h a _ _ t
 PV:=fun a _ _ h k=>ae9 h k.up a
 JB:=fun k what _ h=>Z4 ⟨h.of,h.all,Nat.le_trans h.len hN,h.aj,h.sum⟩ k what
 Dq:=fun k what _ b h hb=>aez ⟨h.of,h.all,Nat.le_trans h.len hN,h.aj,h.sum⟩ k what b.1 hb
theorem abp(s:ByteArray)(hs:s.size<=4000)(d:Nat)(p:Ps):dQ d (pJ s d p).1:=
 NV s dQ (V8 0) (fun d=>aeb (s.size+1) (by omega) d) d p
end
section
variable {w w' w1 w2:World}{C lo hi b S:Nat}{c:Co}{u:Value}{e l r:Ex}{a:Int}{T:TypeId}{x:Sx}
theorem bC{p:Prop}(h:p):Hid p:=h
theorem TW(h:qL x)(rV:Lawful (dF x))(hh:dF x w lo hi u)(hC:hi<=C)(hc:aV w C c)(hr:lQ c x.aj)(hr2:(c.code.length:Int)+200 * x.aj<=799999900):
 Calls prog 347 #[Pt C 0,u] w fun en w'=>en=.returned (Im (c.kN (bZ x.base) x.aH).2)/\aV w' C (c.kN (bZ x.base) x.aH).1/\Gk w w' C:=by
 obtain⟨S,fv,rfl,h1,h2,hS,hrow⟩:=hh;have hh:dF x w lo hi (Pt S 0):=⟨S,fv,rfl,h1,h2,hS,hrow⟩;have D8:Hid (∀y,Gk w y C->Calls prog 348 #[Pt S 0] y fun e w'=>e=.returned (Im (bZ x.base))/\w'=y):=fun y hy=>Oe ((hy.aN S (by omega)).trans hS);have wU:Hid (∀y,Gk w y C->y.cell? (Ad S 4)=some fv):=fun y hy=>(hy.cell (by omega)).trans (aA hS);have HH:Hid (Calls prog 306 #[Pt C 0] w fun e w'=>e=.returned (Im c.hold.2)/\aV w' C c.hold.1/\Gk w w' C):=GK hc;have hsn:=DN h.pos;have hsm:=h.sum;have hcl:c.hold.1.code.length<=800000000:=by have:=hr.code;have:c.hold.1.code.length=c.code.length:=rfl;omega
 obtain⟨fa,fc,hfv⟩:∃fa fc,fv=.slice fa x.aH.length fc:=by
  rcases hrow with⟨hf,rfl⟩|⟨g,cap,m,us,arr,rfl,_⟩
  .exact⟨none,0,by rw[hf];rfl⟩
  .exact⟨_,_,rfl⟩
 subst hfv;have BO:Hid (∀y,Gk w y C->aV y C (c.hold.1.lay 6 [c.hold.2,0])->Calls prog 350 #[Pt C 0,Pt S 0] y fun en w'=>en=.returned (Im ((c.hold.1.lay 6 [c.hold.2,0]).open' (bZ x.base) x.aH).2)/\aV w' C ((c.hold.1.lay 6 [c.hold.2,0]).open' (bZ x.base) x.aH).1/\Gk y w' C):=fun y hy hg=>by
  have h3:=kG c.hold.1 6 [c.hold.2,0];have h5:c.hold.1.code.length=c.code.length:=rfl;simp only[List.length_cons,List.length_nil]at h3;exact Uc h (rV.gk hh hy hC) hC hg ⟨hr.aj,by omega,hr.au⟩
 have hol:((c.hold.1.lay 6 [c.hold.2,0]).open' (bZ x.base) x.aH).1.code.length<=800000000:=by
  have h1:=P6 (c:=c.hold.1.lay 6 [c.hold.2,0]) h (bZ x.base);have h3:=kG c.hold.1 6 [c.hold.2,0];have h5:c.hold.1.code.length=c.code.length:=rfl;simp only[List.length_cons,List.length_nil]at h3;omega
 have hlen:=h.len;clear hS hrow hc hr h hh hr2;unfold Co.kN;by_cases hf:x.aH.length=0
 .rw[if_pos hf];rw[hf]at wU;clear BO hol;simp only;generalize hho:c.hold=ho at *;clear hho;obtain⟨c0,slot⟩:=ho;simp only at *;generalize bZ x.base=ls at *;go_enter func347,ntmps347;go_wp2_with fail;refine HH.out.mono ?_;rintro en w1 ⟨rfl,p1,q1⟩;have c4:=wU.out w1 q1;have qm:Hid (Calls prog 92 #[Pt C 0,.int .u8 21,.slice (some (Ad w1.heap.size 0)) 2 2] (w1.alloc (.cells #[Im slot,Im ls] 3)) fun e w'=>e=.returned (.tuple #[])/\aV w' C (c0.lay 21 [slot,ls])/\Gk w1 w' C):=vT p1 21 slot ls (by omega);have eG:Hid (Gk w w1 C):=q1;clear p1 q1 HH;go_wp2_with fail;refine(D8.out _ eG.out).mono ?_;rintro en w1' ⟨rfl,rfl⟩;go_wp2_with fail;refine qm.out.mono ?_;rintro en w2 ⟨rfl,p2,q2⟩;have HE:Hid (aV w2 C (c0.lay 21 [slot,ls])/\Gk w w2 C):=⟨p2,eG.out.trans q2⟩;clear p2 q2;go_wp2_with fail;go_ret;exact⟨rfl,HE.out⟩
 .rw[if_neg hf];have hb:((x.aH.length:Int)==0)=false:=by rw[beq_eq_false_iff_ne];omega
  simp only;generalize hho:c.hold=ho at *;clear hho;obtain⟨c0,slot⟩:=ho;simp only at *;generalize bZ x.base=ls at *;generalize hoo:(c0.lay 6 [slot,0]).open' ls x.aH=oo at *;clear hoo;obtain⟨oc,os⟩:=oo;simp only at BO hol⊢;generalize x.aH.length=nf at *;go_enter func347,ntmps347;go_wp2_with fail;refine HH.out.mono ?_;rintro en w1 ⟨rfl,p1,q1⟩;have c4:=wU.out w1 q1;have qm:Hid (Calls prog 92 #[Pt C 0,.int .u8 6,.slice (some (Ad w1.heap.size 0)) 2 2] (w1.alloc (.cells #[Im slot,Im 0] 3)) fun e w'=>e=.returned (.tuple #[])/\aV w' C (c0.lay 6 [slot,0])/\Gk w1 w' C):=vT p1 6 slot 0 (by omega);have eG:Hid (Gk w w1 C):=q1;clear p1 q1 HH;go_wp2_with fail;refine qm.out.mono ?_;rintro en w2 ⟨rfl,p2,q2⟩;have Ry:Hid (Calls prog 350 #[Pt C 0,Pt S 0] w2 fun en w'=>en=.returned (Im os)/\aV w' C oc/\Gk w2 w' C):=BO.out w2 (eG.out.trans q2) p2;have dO:Hid (Gk w w2 C):=eG.out.trans q2;clear p2 q2 qm eG BO;go_wp2_with fail;refine Ry.out.mono ?_;rintro en w3 ⟨rfl,p3,q3⟩;have HL2:Hid (Calls prog 92 #[Pt C 0,.int .u8 22,.slice (some (Ad w3.heap.size 0)) 2 2] (w3.alloc (.cells #[Im slot,Im os] 3)) fun e w'=>e=.returned (.tuple #[])/\aV w' C (oc.lay 22 [slot,os])/\Gk w3 w' C):=vT p3 22 slot os (by omega);have lC:Hid (Gk w w3 C):=dO.out.trans q3;clear p3 q3 Ry dO;go_wp2_with fail;refine HL2.out.mono ?_;rintro en w4 ⟨rfl,p4,q4⟩
  have pF:Hid (Calls prog 92 #[Pt C 0,.int .u8 0,Nl] w4 fun e w'=>e=.returned (.tuple #[])/\aV w' C ((oc.lay 22 [slot,os]).lay 0 [])/\Gk w4 w' C):=AZ p4 0 (by have:=kG oc 22 [slot,os];simp only[List.length_cons,List.length_nil]at this;omega);have nN:Hid (Gk w w4 C):=lC.out.trans q4;clear p4 q4 HL2 lC;go_wp2_with fail;refine pF.out.mono ?_;rintro en w5 ⟨rfl,⟨v5,Il,p5⟩,q5⟩;have d2:w5.cell? (Ad C 2)=some (Im ((oc.lay 22 [slot,os]).lay 0 []).free):=aA p5.aW;have fz:∀j,w5.frozen? (Ad C j)=false:=fun j=>eu p5.aW;have HE:Hid (aV (w5.setCell (Ad C 2) (Im (wrap64 (slot+1)))) C (((oc.lay 22 [slot,os]).lay 0 []).dw (wrap64 (slot+1)))/\Gk w (w5.setCell (Ad C 2) (Im (wrap64 (slot+1)))) C):=⟨⟨v5,Il,p5.dw _⟩,(nN.out.trans q5).trans (Gk.free _ _ _)⟩;clear p5 q5 pF nN;go_wp2_with fail;go_ret;exact⟨rfl,HE.out⟩
theorem SC{N:Nat}(hN:N<=100000)(h:nO N dJ x)(kind:Int)(what:ByteArray):dJ (Ci kind what x):=by
 have hx:fM x:=⟨h.aj,h.of,fun b hb=>(h.all b hb).ok⟩;have rV:Lawful (dF x):=IK fun b hb a=>(h.all b hb).ok.law a;have hsg:bD [x.aj]<=1000000->qL x/\bD [x.aj]=1+x.aj:=fun hk=>by
  have hp:=Ag h.aj.1 h.aj.2 hk;exact⟨qL.of hN h (by omega),hp⟩
 refine⟨ND kind what hx,fun c into=>?_,fun c into hk=>?_,?_⟩
 .show((((c.kN (bZ x.base) x.aH).1.dw c.free).choose into).1.lay _ _).au=c.au;rw[Dp,Eo,L6];unfold Co.kN;have hfn:∀(fs:List (Wd×Ex))(c:Co)(one:Int),(∀b∈fs,dJ b.2)->(Co.aH one fs c).au=c.au:=by
   intro fs;induction fs with
   |nil=>intro c one _;rfl
   |cons b fs ih=>
    intro c one hb;have e:Co.aH one (b::fs) c=Co.aH one fs (zM one c b):=rfl;rw[e,ih _ _ (fun d hd=>hb d (List.mem_cons_of_mem _ hd)),N7 one (hb b (List.mem_cons_self ..))]
  split
  .rfl
  .exact hfn _ _ _ h.all
 .show((((((c.kN (bZ x.base) x.aH).1.dw c.free).choose into).1.lay (if what.data.toList==[99,111,117,110,116]then 23 else 24) [_,_]).code.length:Nat):Int)<=c.code.length+200 * bD [x.aj]+50;obtain⟨hs,hp⟩:=hsg hk;have h1:=kG ((((c.kN (bZ x.base) x.aH).1.dw c.free).choose into).1) (if what.data.toList==[99,111,117,110,116]then 23 else 24) [(((c.kN (bZ x.base) x.aH).1.dw c.free).choose into).2,(c.kN (bZ x.base) x.aH).2];rw[yD,Aj]at h1;have h2:=JZ (c:=c) hs (bZ x.base);simp only[List.length_cons,List.length_nil]at h1;omega
 rintro a w lo hi T b C c into ⟨b',us,hv,h1,h2,⟨u,rfl,hu⟩,hb⟩ hC hc hr;cases hv;obtain⟨hs,hp⟩:=hsg hr.aj;have hr:lQ c (bD [x.aj]):=hr;obtain⟨S,fv,rfl,_⟩:=oG hu;have c3:w.cell? (Ad b 3)=some (.string what):=aA hb;have c4:w.cell? (Ad b 4)=some (Pt S 0):=aA hb;refine⟨392,fun w=>by kernel_rfl,fun args w=>by kernel_rfl,?_⟩;have hrc:=hr.code;have HF:Hid (Calls prog 347 #[Pt C 0,Pt S 0] w fun en w'=>en=.returned (Im (c.kN (bZ x.base) x.aH).2)/\aV w' C (c.kN (bZ x.base) x.aH).1/\Gk w w' C):=TW hs rV hu (by omega) hc (hr.less (by omega)) (by omega);have hfl:(c.kN (bZ x.base) x.aH).1.code.length<=850000000:=by
  have:=JZ (c:=c) hs (bZ x.base);have:=hs.max;omega
 have lJ:Hid (w.heap[b]? =some (.cells (Im a::Im (bD [x.aj])::Im kind::[.string what,Pt S 0]).toArray 412)):=hb;obtain⟨v0,E5,h0⟩:=hc;have c2:w.cell? (Ad C 2)=some (Im c.free):=aA h0.aW;have hbC:b<C:=by omega
 clear hu hb h0 hr hs h hx hrc rV hsg hp;show Calls prog 392 #[Pt b 0,Pt C 0,Im into] w fun en w'=>en=.returned (Im (((c.kN (bZ x.base) x.aH).1.dw c.free).choose into).2)/\aV w' C ((((c.kN (bZ x.base) x.aH).1.dw c.free).choose into).1.lay (if what.data.toList==[99,111,117,110,116]then 23 else 24) [(((c.kN (bZ x.base) x.aH).1.dw c.free).choose into).2,(c.kN (bZ x.base) x.aH).2])/\Gk w w' C;generalize c.kN (bZ x.base) x.aH=ff at *;obtain⟨fc,fs⟩:=ff;simp only at HF hfl⊢;generalize hfr:c.free=fr at *;have hl2:((fc.dw fr).choose into).1.code.length<=900000000:=by rw[yD,Aj];omega
 generalize hk:(fc.dw fr).choose into=k at *;have FW:Hid ((fc.dw fr).choose into=k):=hk;clear hk;obtain⟨k1,k2⟩:=k;simp only at hl2⊢;have hcase:((what.toList==[99,111,117,110,116])=true/\(if what.data.toList==[99,111,117,110,116]then (23:Int)else 24)=23)\/((what.toList==[99,111,117,110,116])=false/\(if what.data.toList==[99,111,117,110,116]then (23:Int)else 24)=24):=by
  rw[ByteArray.toList_eq];cases (what.data.toList==[99,111,117,110,116])
  .exact Or.inr ⟨rfl,rfl⟩
  .exact Or.inl ⟨rfl,rfl⟩
 rcases hcase with⟨t1,t2⟩|⟨t1,t2⟩;all_goals
  rw[t2];clear t2;go_enter func392,ntmps392;go_wp2_with fail;refine HF.out.mono ?_;rintro e1 w1 ⟨rfl,⟨v1,tK,p1⟩,q1⟩;have d2:w1.cell? (Ad C 2)=some (Im fc.free):=aA p1.aW;have fz:∀j,w1.frozen? (Ad C j)=false:=fun j=>eu p1.aW;have HC:Hid (Calls prog 364 #[Pt C 0,Im into] (w1.setCell (Ad C 2) (Im fr)) fun e w'=>e=.returned (Im k2)/\aV w' C k1/\Gk (w1.setCell (Ad C 2) (Im fr)) w' C):=by
   have:=GI ⟨v1,tK,p1.dw fr⟩ into;rw[FW.out]at this;exact this
  have eG:Hid (Gk w (w1.setCell (Ad C 2) (Im fr)) C):=q1.trans (Gk.free _ _ _);clear p1 q1 HF;go_wp2_with fail;refine HC.out.mono ?_;rintro e2 w2 ⟨rfl,p2,q2⟩;have a3:w2.cell? (Ad b 3)=some (.string what):=((eG.out.trans q2).cell hbC).trans c3;have HL:=fun o=>vT p2 o k2 fs hl2;have HL:Hid (∀o,Calls prog 92 #[Pt C 0,.int .u8 o,.slice (some (Ad w2.heap.size 0)) 2 2] (w2.alloc (.cells #[Im k2,Im fs] 3)) fun e w'=>e=.returned (.tuple #[])/\aV w' C (k1.lay o [k2,fs])/\Gk w2 w' C):=HL;have dO:Hid (Gk w w2 C):=eG.out.trans q2;clear p2 q2 HC eG d2 fz;go_wp2_with fail;refine(HL.out _).mono ?_;rintro e3 w3 ⟨rfl,p3,q3⟩;have HE:=bC (And.intro p3 (dO.out.trans q3));clear p3 q3 HL;go_wp2_with fail;go_ret;exact⟨rfl,HE.out⟩
end
end
end Go.Proofs.YthllhabjfchgiaaGreatDoor
