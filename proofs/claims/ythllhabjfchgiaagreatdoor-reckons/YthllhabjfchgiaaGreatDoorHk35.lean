import Derived.Test.YthllhabjfchgiaaGreatDoorHk34
import Derived.Test.YthllhabjfchgiaaGreatDoorHk33
set_option maxRecDepth 100000
set_option maxHeartbeats 8000000
set_option linter.unusedSimpArgs false
namespace Go.Proofs.YthllhabjfchgiaaGreatDoor
open _root_.Go.Proofs.Tryz
section
open Go.RowKit Hx
attribute [local go_sem ↓] Go.wp_at_zero Go.wp_at_succ
attribute [local go_sem] kP
section
variable {s:ji}{ex:Ps->Ex×Ps}{d:Nat}{p:Ps}
theorem ach:(prog.info? 361).map (λi=>(i.zero,i.size,i.bytes))=some (some (.agg #[.string ⟨#[]⟩,Im 0,.nilIface]),3,40):=by kernel_rfl
structure Sr(s:ji)(ex:Ps->Ex×Ps)(d:Nat)(R:(Sx×Bool)×Ps)(P:Nat)(w:jk)(S:Nat)(wr:jk)(gg:Nat)(fv:jm)(g:Nat)(x:Sx)(us:List jm)(q:Ps)(m:Nat):Prop where
 heap:su P w wr S fv g x us m
 pr:jQ wr P s q
 ok:q.Ok s
 deep:Deep (d+1) q
 Ar:pq x
 fuel:(s.size:Int)+1-q.k.at'<=gg
 len:x.jE.length+gg<=100000
 eq:vw s ex gg x q=R
theorem apP{w w':jk}{P:Nat}{q:Ps}(h:jQ w P s q)(hb:w'.heap[P]? =w.heap[P]?):jQ w' P s q:=by
 have h:=h;have hc:∀j,w'.cell? (Ad P j)=w.cell? (Ad P j):=λj=>bQ hb;exact⟨by rw[hc];exact h.c0,by rw[hc];exact h.c1,by rw[hc];exact h.c2,by rw[hc];exact h.c3,by rw[hc];exact h.c4,by rw[hc];exact h.c5,by rw[hc];exact h.c6,
  λj=>(dZ hb).trans (h.fr j)⟩
theorem V5{w:jk}{B n:Nat}{v:jm}{us:List jm}(h:w.ownsRow B 361 3 v n us):∃a c,v=.slice a n c:=by
 rcases h with⟨_,⟨h2,h3⟩|⟨g,cap,cur,h2,_⟩⟩
 .subst h3;exact⟨_,_,h2⟩
 .exact⟨_,_,h2⟩
theorem aj6{q:Ps}{gg:Nat}(ok:q.Ok s)(hf:(s.size:Int)+1-q.k.at'<=gg)(h:q.is [46]=true):∃g',gg=g'+1/\(s.size:Int)+1-(q.next s).k.at'<=g':=by
 have h1:=ok.tok.bd;have h2:=F6 ok;have h3:=ok.tok.yR;have h4:q.k.text.size=1:=by
  have h5:=eq_of_beq h;have h6:q.k.text.data.toList.length=1:=by rw[h5];rfl
  exact h6
 refine⟨gg-1,?_,?_⟩<;>omega
theorem asl(hs:s.size<=4000)(h:Reader s ex d)(ok:p.Ok s)(hd:Deep (d+1) p)(of:Int)(hof:setOf p.k.text.data.toList=some of):yM s p (vw s ex (s.size+1) ⟨p.k.at',1,p.k.text,of,[]⟩ (p.next s)):=by
 intro P w hp;have hlt:=hp.lt;have hL:=kG.lt hp;have gn:=nZ ok (adP hof);have e2:∀x:Ext w,x.val.cell? (Ad P 2)=some (.string p.k.text):=λx=>(kG.grow hp x.grown).c2;have e3:∀x:Ext w,x.val.cell? (Ad P 3)=some (Im p.k.at'):=λx=>(kG.grow hp x.grown).c3;have hne:=OL w;have HW:=jA (λw' (hg:w.grownBy w' none)=>kG.grow hp hg);have HX:Hid (∀x:Ext w,Calls prog 234 #[Im p.k.at',Nl] x.val λe w''=>e=.returned (.agg #[Im p.k.at',Im 1])/\∃y:Ext w,w''=y.val):=λx=>aa3 _ x;have RQ:Hid (∀q:Ps,q.Ok s->∀x,jQ x P s q->Calls prog 236 #[Pt P 0] x (qO P s x (xJ q.k) (q.next s))):=λq o x hx=>xw hx o hs;have Zh:=jA (λx (hx:jQ x P s p)=>xw hx ok hs);have Gv:Hid (∀q:Ps,q.Ok s->Deep (d+1) q->∀x,jQ x P s q->Calls prog 257 #[Pt P 0] x λe w'=>∃u,e=.returned (I8 (qP s ex q).1.1 u)/\(qP s ex q).1.2.here (qP s ex q).1.2.at' w' x.heap.size w'.heap.size u/\jQ w' P s (qP s ex q).2/\x.grownBy w' (some P)):=λq o hq x hx=>aaf hs h o hq P x hx;have HG:=jA h.good;have hor:of=3/\(p.k.text.toList==[82,79,65,68,83])=true\/of=4/\(p.k.text.toList==[82,79,65,68,83])=false/\((p.k.text.toList==[70,82,69,83,72])=true\/(p.k.text.toList==[70,82,69,83,72])=false/\(p.k.text.toList==[65,71,65,73,78])=true):=by
  rw[aZ];unfold setOf at hof;generalize p.k.text.data.toList=tl at *;cases h1:(tl==[82,79,65,68,83])with
  |true=>rw[h1]at hof;simp at hof;exact jf ⟨hof.symm,rfl⟩
  |false=>
   rw[h1]at hof;cases h2:(tl==[70,82,69,83,72])with
   |true=>rw[h2]at hof;simp at hof;exact je ⟨hof.symm,rfl,jf rfl⟩
   |false=>
    cases h3:(tl==[65,71,65,73,78])with
    |true=>rw[h2,h3]at hof;simp at hof;exact je ⟨hof.symm,rfl,je ⟨rfl,rfl⟩⟩
    |false=>rw[h2,h3]at hof;simp at hof
 have Zq:Hid (∀wx w2 S,w.grownBy wx (some P)->w.heap.size<=S->wx.heap[S]? =some (.cells #[Im p.k.at',Im 1,.string p.k.text,Im of,Nl] 348)->jQ w2 P s (p.next s)->wx.grownBy w2 (some P)->Sr s ex d (vw s ex (s.size+1) ⟨p.k.at',1,p.k.text,of,[]⟩ (p.next s)) P w S w2 (s.size+1) (Nl) 0 ⟨p.k.at',1,p.k.text,of,[]⟩ [] (p.next s) (S+1)):=λwx w2 S h1 h2 h3 h4 h5=>by
  have hf:pq ⟨p.k.at',1,p.k.text,of,[]⟩:=⟨by simp,QU hof,by simp⟩;have h0:su P w wx S (Nl) 0 ⟨p.k.at',1,p.k.text,of,[]⟩ [] (S+1):=su.start h3 rfl h2 h1;have hat:=gn.ok.tok.yR;exact⟨h0.keep hf hlt h5,h4,gn.ok,hd.good gn,hf,by omega,by simp;omega,rfl⟩
 generalize vw s ex (s.size+1) ⟨p.k.at',1,p.k.text,of,[]⟩ (p.next s)=R at *;clear hp h ok hd gn hof;go_enter func243,ntmps243;go_wp2_with fail;refine Rx 12 (by kernel_rfl) (by kernel_rfl) ?_;simp only[aC,aO,aG,aQ];repeat (go_big_quiet_step ((go_at_call 234;exact HX.out _)))
 refine bF ?_;intro wx hg;have f2:=kG.c2 (HW.out wx hg);have hPx:=kG.lt (HW.out wx hg);have n1:¬P=wx.heap.size:=by omega
 have RI:=jA hg;clear e2 e3 hg HX;go_upto_block 0 with fail;go_cut [] (λwy=>Hid (jQ wy P s p/\wy.heap[wx.heap.size]? =some (.cells #[Im p.k.at',Im 1,.string p.k.text,Im of,Nl] 348)/\w.grownBy wy (some P)))
 case first=>
  have HF:Hid (∀o,o=Obj.cells #[Im p.k.at',Im 1,.string p.k.text,Im of,Nl] 348->jQ (wx.alloc o) P s p/\(wx.alloc o).heap[wx.heap.size]? =some (.cells #[Im p.k.at',Im 1,.string p.k.text,Im of,Nl] 348)/\w.grownBy (wx.alloc o) (some P)):=λo ho=>by
   subst ho;exact⟨kG.grow (HW.out wx RI.out) (ah _ _ none),aY _ _,((RI.out).trans (ah _ _ none)).but _⟩
  rcases hor with⟨rfl,t1⟩|⟨rfl,t1,t2|⟨t2,t3⟩⟩;all_goals (go_wp2_with fail;go_meet;exact HF.out _ rfl)
 case rest=>
  obtain⟨hy1,hy2,hy3⟩:=hcut.out;have HY:=jA (jd hy1 (jd hy2 (jd hy3 RI.out.size)));clear hcut hy1 hy2 hy3 hor f2;go_wp2_with fail;refine(Zh.out _ HY.out.1).mono ?_;rintro e w2 ⟨rfl,p2,g2⟩;have HO:=Zq.out _ _ _ HY.out.2.2.1 HY.out.2.2.2 HY.out.2.1 p2 g2;generalize wx.heap.size=S at *;have HO:=jA HO;clear p2 g2 Zh Zq HY HW;have auz:=HO.out.heap.Gg;go_wp2_with fail;go_loopg [] (s.size+1) (λgg wr=>Hid (∃fv g x us q m,Sr s ex d R P w S wr gg fv g x us q m))
  case atStart=>exact⟨_,_,_,_,_,_,HO.out⟩
  case round=>
   obtain⟨fv,g,x,us,q,m,hI⟩:=hrel.out;clear hrel HO;have HI:=jA hI;have HI1:Hid (Calls prog 242 #[Pt P 0,.string ⟨#[46]⟩] wr λe w'=>e=.returned (.bool (q.is [46]))/\w'=wr):=Ho hI.pr [46];clear hI;cases t0:q.is [46]with
   |false=>
    rw[t0]at HI1;have HF:Hid (R=((x,false),q)):=by
     have:=HI.out.eq;rw[<-this];cases gk with
     |zero=>rfl
     |succ n=>unfold vw;rw[t0];rfl
    go_wp2_with fail;refine HI1.out.mono ?_;rintro e w3 ⟨rfl,rfl⟩;go_wp2_with fail;go_ret2;rw[HF.out];exact⟨_,rfl,HI.out.heap.out,HI.out.pr,HI.out.heap.grown⟩
   |true=>
    rw[t0]at HI1;obtain⟨g',hg',hfu⟩:=aj6 HI.out.ok HI.out.fuel t0;have gn:=nZ HI.out.ok (oU (by simp) t0);have KD:=jA gn;have Y7:=jA hfu;have HE:Hid (vw s ex (g'+1) x q=R):=by have:=HI.out.eq;rw[hg']at this;exact this
    clear gn hfu;go_wp2_with fail;refine HI1.out.mono ?_;rintro e w3 ⟨rfl,rfl⟩;go_wp2_with fail;refine(RQ.out q HI.out.ok _ HI.out.pr).mono ?_;rintro e w4 ⟨rfl,p4,g4⟩;have nJ:=jA (jd p4 g4);have HI2:Hid (Calls prog 242 #[Pt P 0,.string ⟨#[102,105,108,116,101,114]⟩] w4 λe w'=>e=.returned (.bool ((q.next s).is [102,105,108,116,101,114]))/\w'=w4):=Ho p4 _;clear p4 g4 HI1;cases t1:(q.next s).is [102,105,108,116,101,114]with
    |false=>
     rw[t1]at HI2;have HF:Hid (R=((x,true),q.next s)):=by rw[<-HE.out];unfold vw;rw[t0,t1];rfl
     go_wp2_with fail;refine HI2.out.mono ?_;rintro e w5 ⟨rfl,rfl⟩;go_wp2_with fail;go_ret2;rw[HF.out];have hk:=HI.out.heap.keep HI.out.Ar hlt nJ.out.2;exact⟨_,rfl,hk.out,nJ.out.1,hk.grown⟩
    |true=>
     rw[t1]at HI2;have Jk:=nZ KD.out.ok (oU (by simp) t1);have hd2:=HI.out.deep.good (KD.out.trans Jk);have EU:=jA (Gv.out _ Jk.ok hd2);obtain⟨gb,xb⟩:=Oq HG.out Jk.ok hd2;have zx:=jA (jd ((KD.out.trans Jk).trans gb) (jd xb ((Jk.trans gb).mono)));have HE2:Hid (vw s ex g' (x.add (qP s ex ((q.next s).next s)).1) (qP s ex ((q.next s).next s)).2=R):=by
      have:=HE.out;unfold vw at this;rw[t0,t1]at this;exact this
     have ET:=jA (RQ.out _ KD.out.ok);clear Jk hd2 gb xb HE Gv RQ;generalize qP s ex ((q.next s).next s)=bq at *;obtain⟨⟨⟨dt,da⟩,be⟩,q2⟩:=bq;simp only at EU zx HE2;generalize (q.next s).next s=q1 at *;have EU:Hid (∀y,jQ y P s q1->Calls prog 257 #[Pt P 0] y λe w'=>∃u,e=.returned (.agg #[.string dt,Im da,u])/\be.here be.at' w' y.heap.size w'.heap.size u/\jQ w' P s q2/\y.grownBy w' (some P)):=EU.out;go_wp2_with fail;refine HI2.out.mono ?_;rintro e w5 ⟨rfl,rfl⟩;go_wp2_with fail;refine(ET.out _ nJ.out.1).mono ?_;rintro e w6 ⟨rfl,p6,g6⟩;have EW:=jA (jd p6 (nJ.out.2.trans g6));clear p6 g6 nJ HI2 ET;go_wp2_with fail;refine(EU.out _ EW.out.1).mono ?_;rintro e w7 ⟨ub,rfl,e7,p7,g7⟩;obtain⟨T2,A2,hv2,hm2,b1,b2,b3⟩:=zx.out.2.1.rZ e7;subst hv2;have Bv:=jA (jd e7 (jd p7 g7));clear e7 p7 g7 EU b1 b2 b3;go_upto_region 16 with fail;have hgb:(w7.alloc (.cells #[.string dt,Im da,.iface T2 (Pt A2 0)] 361)).heap[w7.heap.size]? =some (.cells #[.string dt,Im da,.iface T2 (Pt A2 0)] 361):=aY _ _;have hgW:w7.grownBy (w7.alloc (.cells #[.string dt,Im da,.iface T2 (Pt A2 0)] 361)) none:=ah _ _ none;have alN:w7.heap.size+1<=(w7.alloc (.cells #[.string dt,Im da,.iface T2 (Pt A2 0)] 361)).heap.size:=by rw[nX];exact aj _
     generalize hW:w7.alloc (.cells #[.string dt,Im da,.iface T2 (Pt A2 0)] 361)=W at *;clear hW;have hx:=HI.out.Ar;have rV:=HI.out.heap.keep hx hlt (EW.out.2.trans (Bv.out.2.2.trans (hgW.but _)));obtain⟨fa,fc,hfv⟩:=V5 rV.own;subst hfv;have hlen:x.jE.length<=100000:=by have:=HI.out.len;omega
     have hm7:m<=w6.heap.size:=dH HI.out.heap.Ey EW.out.2.size;have h67:=Bv.out.2.2.size;have hW7:=hgW.size;have hbe:be.here be.at' W w6.heap.size w7.heap.size (.iface T2 (Pt A2 0)):=(zx.out.2.1.law _).loc _ _ _ _ _ Bv.out.1 (λb _ hb=>hgW.block b hb (by simp));have c4:W.cell? (Ad S 4)=some (.slice fa x.jE.length fc):=jI rV.set;have hSW:=lY rV.set;have k0:W.cell? (Ad w7.heap.size 0)=some (.string dt):=jI hgb;have k1:W.cell? (Ad w7.heap.size 1)=some (Im da):=jI hgb;have k2:W.cell? (Ad w7.heap.size 2)=some (.iface T2 (Pt A2 0)):=jI hgb;have hbw:=lY hgb;obtain⟨i0,hi0,hz0,hz1,hz2⟩:=info_parts ach;have HO:Hid (∀(o:Obj)(n:Nat),((W.alloc o).drewN n).ownsRow (S+1) 361 3 (.slice fa x.jE.length fc) x.jE.length (xq x.jE us)):=λo n=>
      (rV.own.alloc o).kept (w':=(W.alloc o).drewN n) (row:=none) ⟨rfl,rfl,rfl,aj _,λ_ _ _=>rfl⟩ (by cases (Value.slice fa x.jE.length fc).ownBlock<;>simp)
     have Zn:Hid (jQ W P s q2):=Bv.out.2.1.grow hgW;have HQ:Hid (∀(o:Obj)(n:Nat)(w1:jk)(gg cap:Nat),((W.alloc o).drewN n).grownBy w1 (Value.slice fa x.jE.length fc).ownBlock->w1.ownsRow (S+1) 361 3 (.slice (some (Ad gg 0)) (x.jE.length+1) cap) (x.jE.length+1) (xq x.jE us++[.string dt,Im da,.iface T2 (Pt A2 0)])->((Value.slice fa x.jE.length fc).ownBlock=some gg\/gg=W.heap.size+1)->gg<w1.heap.size->
      (∃Dh us' m',su P w (w1.setCell (Ad S 4) (.slice (some (Ad gg 0)) (x.jE.length+1) cap)) S Dh gg {x with jE:=x.jE++[(⟨dt,da⟩,be)]} us' m')/\jQ (w1.setCell (Ad S 4) (.slice (some (Ad gg 0)) (x.jE.length+1) cap)) P s q2/\
      (w1.setCell (Ad S 4) (.slice (some (Ad gg 0)) (x.jE.length+1) cap)).heap[w7.heap.size]? =some (.cells #[.string dt,Im da,.iface T2 (Pt A2 0)] 361)/\
      (w1.setCell (Ad S 4) (.slice (some (Ad gg 0)) (x.jE.length+1) cap)).cell? (Ad A2 1)=some (Im be.jw)/\(∃u,w1.cell? (Ad S 4)=some u)/\w1.frozen? (Ad S 4)=false):=by
      intro o n w1 gg cap hgr hown hat hlt2;have BU:W.grownBy ((W.alloc o).drewN n) none:=(ah W o none).trans (lK _ n);obtain⟨n1,n2⟩:=rV.pF BU hgr;have hadd:=rV.add (d:=⟨dt,da⟩) hx zx.out.2.1 BU hgr hown (hat.elim jf λe=>je (by omega)) hlt2 hbe hm7 h67 (by omega);have hS1:w1.heap[S]? =some (.cells #[Im x.at',Im x.jw,.string x.base,Im x.of,.slice fa x.jE.length fc] 348):=(n1 S hSW (je (je (aj _)))).trans rV.set;have O9:=rV.FZ;have auQ:=rV.Gg;obtain⟨T3,A3,hv3,_,b1,b2,b3⟩:=zx.out.2.1.rZ hbe;cases hv3;have hbx:(w1.setCell (Ad S 4) (.slice (some (Ad gg 0)) (x.jE.length+1) cap)).heap[w7.heap.size]? =some (.cells #[.string dt,Im da,.iface T2 (Pt A2 0)] 361):=by
       rw[bC _ _ _ _ (by simp only;omega),n1 _ hbw (je (jf (by omega)))];exact hgb
      have hA:(w1.setCell (Ad S 4) (.slice (some (Ad gg 0)) (x.jE.length+1) cap)).heap[A2]? =W.heap[A2]? :=by
       rw[bC _ _ _ _ (by simp only;omega),n1 _ (by omega) (je (jf (by omega)))]
      refine⟨⟨_,_,_,hadd⟩,?_,hbx,(bQ hA).trans b3,⟨_,jI hS1⟩,oQ hS1⟩;refine jQ.Dz ?_ (by omega) _ _;have hP1:w1.heap[P]? =W.heap[P]? :=n1 P (by omega) (je (je (by omega)));exact apP Zn.out hP1
     have hmx:x.jE.length+1<=maxLen:=by unfold maxLen;omega
     have hby:(x.jE.length+1) * 40<=140737488355328:=by omega
     have nS:¬S=W.heap.size:=by omega
     clear rV hbe hgb hgW;generalize xq x.jE us=cells at *;generalize x.jE.length=len at *;go_cut [] (λwz=>Hid (∃gg Dh us' m',su P w wz S Dh gg {x with jE:=x.jE++[(⟨dt,da⟩,be)]} us' m'/\jQ wz P s q2/\wz.heap[w7.heap.size]? =some (.cells #[.string dt,Im da,.iface T2 (Pt A2 0)] 361)/\wz.cell? (Ad A2 1)=some (Im be.jw)))
     case first=>
      go_region_law ((refine step_append_lies _ (by rfl) _ _ _ (by rfl) (S+1) 361 i0 _ 3 40 Tryz.underlying346 hi0 hz0 hz1 hz2 (by rfl) (by omega) (.slice fa len fc) len cells (by rfl) (HO.out _ 1) (Ad W.heap.size 0) 1 1 [.string dt,Im da,.iface T2 (Pt A2 0)] (by rfl) (by rfl) (fM (cs:=#[.string dt,Im da,.iface T2 (Pt A2 0)]) (t:=361) (fr:=(0,0)) (aY W _)) (by simp[Value.oneCell']) (by omega) hmx hby (by simp;omega) (W.heap.size+1) (by simp) ?_;intro gg cap1 w3 hown1 hgrow hat hlt3;obtain⟨u12,Uu⟩:=(HQ.out _ 1 _ _ _ hgrow hown1 hat hlt3).2.2.2.2.1;have Ug:=(HQ.out _ 1 _ _ _ hgrow hown1 hat hlt3).2.2.2.2.2));all_goals (go_wp2_with fail;go_meet;obtain⟨⟨a1,a2,a3,a4⟩,a5,a6,a7,_⟩:=HQ.out _ 1 _ _ _ hgrow hown1 hat hlt3;exact⟨_,a1,a2,a3,a4,a5,a6,a7⟩)
     case rest=>
      obtain⟨gg,Dh,us',m',rV,hPs,hbx,hAc⟩:=hcut.out;clear hcut HQ HO c4 k0 k1 k2 hmx hby nS hz0 hz1 hz2 hi0 hSW hW7 hbw alN;have hxa:pq {x with jE:=x.jE++[(⟨dt,da⟩,be)]}:=⟨hx.jw,hx.of,λb hb=>by
       rcases List.mem_append.1 hb with hb|hb
       .exact hx.all b hb
       .rw[cO.1 hb];exact zx.out.2.1⟩
      have hSW:=lY rV.set;have c1:wc.cell? (Ad S 1)=some (Im x.jw):=jI rV.set;have c3:wc.cell? (Ad S 3)=some (Im x.of):=jI rV.set;have fz:∀j,wc.frozen? (Ad S j)=false:=λj=>oQ rV.set;have hbw:=lY hbx;have k2:wc.cell? (Ad w7.heap.size 2)=some (.iface T2 (Pt A2 0)):=jI hbx;have O3:Hid (∀y,wc.grownBy y none->y.cell? (Ad S 3)=some (Im x.of)):=λy hy=>hy.cell c3 (by simp);have OA:Hid (∀y,wc.grownBy y none->y.cell? (Ad A2 1)=some (Im be.jw)):=λy hy=>hy.cell hAc (by simp);have hcb:=hx.jw;have hbb:=zx.out.2.1.jw;have hrb:=uo (x:=x) hbb;have wW:Hid (∀y,(wc.setCell (Ad S 1) (Im (lu [x.jw,x.round be.jw]))).grownBy y none->Sr s ex d R P w S y g' Dh gg (x.add (⟨dt,da⟩,be)) us' q2 m'):=λy hy=>by
       have h0:=rV.jw hxa hlt (aN _ _) (lu [x.jw,x.round be.jw]);have h1:su P w y S Dh gg (x.add (⟨dt,da⟩,be)) us' m':=su.keep h0 (hx.add zx.out.2.1) hlt (hy.but _);have hS1:=rV.Gg;have hl:=HI.out.len;have hfu:=Y7.out;have hmo:=zx.out.2.2;refine⟨h1,kG.grow (jQ.Dz hPs (by omega) _ _) hy,zx.out.1.ok,HI.out.deep.good zx.out.1,hx.add zx.out.2.1,by omega,?_,HE2.out⟩;show(x.jE++[((⟨dt,da⟩:Wd),be)]).length+g'<=100000;simp only[aA,aF,bg];omega
      obtain⟨o1,o2,hro⟩:∃o1 o2:Obj,∀y:jk,y.cell? (Ad S 3)=some (Im x.of)->Calls prog 245 #[Pt S 0,Im be.jw] y λe w'=>e=.returned (Im (x.round be.jw))/\w'=(y.alloc o1).alloc o2:=⟨_,_,λy hy=>QJ (x:=x) (S:=S) hy be.jw hbb⟩;have DZ:Hid (∀y:jk,wc.grownBy y none->Calls prog 245 #[Pt S 0,Im be.jw] y λe w'=>e=.returned (Im (x.round be.jw))/\w'=(y.alloc o1).alloc o2):=λy hy=>hro y (O3.out y hy);clear hro O3 rV hPs hbx hAc HE2 Y7 HI KD EW Bv Zn zx hxa hx;generalize x.round be.jw=rc at *;generalize be.jw=bc at *;generalize hxc:x.jw=xc at *;clear hxc;have pS1:S<wc.heap.size+1:=by omega
      have pS2:S<wc.heap.size+1+1:=by omega
      have pS3:S<wc.heap.size+1+1+1:=by omega
      have rS2:S<wc.heap.size+2:=by omega
      have rS3:S<wc.heap.size+3:=by omega
      have nS1:¬S=wc.heap.size:=by omega
      go_wp2_with fail;go_region_with (first
       |(go_at_call 244;refine(uh A2 0 bc (OA.out _ (by repeat (first|exact aN _ _|refine Em ?_|refine Dj ?_|refine Jm ?_)))).mono ?_;rintro e w' ⟨rfl,rfl⟩)
       |(go_at_call 245;refine(DZ.out _ (by repeat (first|exact aN _ _|refine Em ?_|refine Dj ?_|refine Jm ?_))).mono ?_;rintro e w' ⟨rfl,rfl⟩)
       |(go_at_call 143;refine(NS (agQ xc rc hcb hrb (jI (a:=#[Im xc,Im rc]) (T:=3) (by repeat (first|(with_reducible refine Md ?_;simp only[nX];done)|with_reducible refine L9 ?_|with_reducible refine L8 ?_))) (jI (a:=#[Im xc,Im rc]) (T:=3) (by repeat (first|(with_reducible refine Md ?_;simp only[nX];done)|with_reducible refine L9 ?_|with_reducible refine L8 ?_))))).mono ?_;rintro e w' ⟨rfl,rfl⟩))
      all_goals (go_wp2_with fail;go_roundg g')
      all_goals (first|(show _<_;omega)|exact⟨_,_,_,_,_,_,wW.out _ (Dj (Em (Em (Em (aN _ _)))))⟩)
theorem asj(hof:setOf p.k.text.data.toList=none):yM s p ((⟨p.k.at',1,p.k.text,4,[]⟩,false),p.fail):=by
 intro P w hp;have hlt:=hp.lt;have e2:∀x:Ext w,x.val.cell? (Ad P 2)=some (.string p.k.text):=λx=>(kG.grow hp x.grown).c2;have e3:∀x:Ext w,x.val.cell? (Ad P 3)=some (Im p.k.at'):=λx=>(kG.grow hp x.grown).c3;have hne:=OL w;have HW:=jA (λw' (hg:w.grownBy w' none)=>kG.grow hp hg);have HX:Hid (∀x:Ext w,Calls prog 234 #[Im p.k.at',Nl] x.val λe w''=>e=.returned (.agg #[Im p.k.at',Im 1])/\∃y:Ext w,w''=y.val):=λx=>aa3 _ x;have hor:(p.k.text.toList==[82,79,65,68,83])=false/\(p.k.text.toList==[70,82,69,83,72])=false/\(p.k.text.toList==[65,71,65,73,78])=false:=by
  rw[aZ];unfold setOf at hof;generalize p.k.text.data.toList=tl at *;cases h1:(tl==[82,79,65,68,83])with
  |true=>rw[h1]at hof;simp at hof
  |false=>
   rw[h1]at hof;cases h2:(tl==[70,82,69,83,72])with
   |true=>rw[h2]at hof;simp at hof
   |false=>
    cases h3:(tl==[65,71,65,73,78])with
    |true=>rw[h2,h3]at hof;simp at hof
    |false=>exact⟨rfl,rfl,rfl⟩
 obtain⟨t1,t2,t3⟩:=hor;have KC:=jA (λx (hx:jQ x P s p)=>Eh hx);have nT:Hid (∀y w2 S,w.heap.size<=S->w.grownBy y (some P)->y.heap[S]? =some (.cells #[Im p.k.at',Im 1,.string p.k.text,Im 4,Nl] 348)->y.grownBy w2 (some P)->oW ⟨p.k.at',1,p.k.text,4,[]⟩ w2 w.heap.size w2.heap.size (Pt S 0)/\w.grownBy w2 (some P)):=λy w2 S h1 h2 h3 h4=>by
  have h0:su P w y S (Nl) 0 ⟨p.k.at',1,p.k.text,4,[]⟩ [] (S+1):=su.start h3 rfl h1 h2;have h5:=h0.keep ⟨by simp,je rfl,by simp⟩ hlt h4;exact⟨h5.out,h5.grown⟩
 generalize p.fail=q at *;clear hp hof;go_enter func243,ntmps243;go_wp2_with fail;refine Rx 12 (by kernel_rfl) (by kernel_rfl) ?_;simp only[aC,aO,aG,aQ];repeat (go_big_quiet_step ((go_at_call 234;exact HX.out _)))
 refine bF ?_;intro wx hg;have f2:=kG.c2 (HW.out wx hg);have hPx:=kG.lt (HW.out wx hg);have n1:¬P=wx.heap.size:=by omega
 have HY:Hid (∀o,jQ (wx.alloc o) P s p/\(wx.alloc o).heap[wx.heap.size]? =some o/\w.grownBy (wx.alloc o) (some P)):=λo=>⟨kG.grow (HW.out wx hg) (ah _ _ none),aY _ _,(hg.trans (ah _ _ none)).but _⟩;have HSz:=jA hg.size;clear e2 e3 hg HX;go_wp2_with fail;refine(KC.out _ (HY.out _).1).mono ?_;rintro e w2 ⟨rfl,p2,g2⟩;have HE:Hid (oW ⟨p.k.at',1,p.k.text,4,[]⟩ w2 w.heap.size w2.heap.size (Pt wx.heap.size 0)/\jQ w2 P s q/\w.grownBy w2 (some P)):=by
  obtain⟨a1,a2⟩:=nT.out _ w2 _ HSz.out (HY.out _).2.2 (HY.out _).2.1 g2;exact⟨a1,p2,a2⟩
 clear p2 g2;go_wp2_with fail;go_ret2;exact⟨_,rfl,HE.out⟩
theorem asn(hs:s.size<=4000)(h:Reader s ex d)(ok:p.Ok s)(hd:Deep (d+1) p):yM s p (oD s ex (s.size+1) p):=by
 unfold oD;split
 .rename_i of hof;exact asl hs h ok hd of hof
 .rename_i hof;exact asj hof
theorem aso(hs:s.size<=4000):Sv s:=⟨λ_ _ h _ ok hd=>asn hs h ok hd,λ_ _ h _ _ k ok hd hb hx=>an7 hs h ok hd hb hx k⟩
end
section
variable {w:jk}{s:ji}
def oC(s:ji):List jG×Int×Int:=if 4000<s.size then ([],1,0)else xB (lZ s 21 (xE s))
theorem apj(h:4000<s.size):Calls prog 88 #[.string s] w λe w'=>e=.returned (.tuple #[Nl,.agg #[Im 1,Im 0]])/\w.grownBy w' none:=by
 have d1:decide ((4000:Int)<(s.size:Int))=true:=by simp;omega
 go_enter func88,ntmps88;go_wp2_with fail;refine cu (Qz _ _ w.heap.size _ 1 0 rfl rfl ?_) rfl ⟨rfl,?_⟩
 .exact aY _ _
 .exact ah _ _ none
theorem apk(hs:s.size<=4000):Calls prog 88 #[.string s] w λe w'=>∃v,e=.returned (.tuple #[v,.agg #[Im (xB (lZ s 21 (xE s))).2.1,Im (xB (lZ s 21 (xE s))).2.2]])/\mW (xB (lZ s 21 (xE s))).1 w' w.heap.size w'.heap.size v/\w.grownBy w' none:=by
 have d1:decide ((4000:Int)<(s.size:Int))=false:=by simp;omega
 have HS:=jA (λw=>afB s 0 w hs (by omega));have HQ:=jA (λP x (h:kG x P s (Hx.scan s 0) 0 0 0)=>agj hs (aso hs) 21 (xE s) (QB s) (aeP s) P x h);have HL:=jA ((Rf s 21 (xE s) (QB s) (aeP s)).2);generalize lZ s 21 (xE s)=R at *;obtain⟨L,q⟩:=R;simp only at HQ HL;generalize Hx.scan s 0=k at *;go_enter func88,ntmps88;go_wp2_with fail;refine(HS.out _).mono ?_;rintro e w1 ⟨rfl,g1⟩;have hf1:=(g1.block _ (by simp) (by simp)).trans (aY w _);have pR:=jA (jd ((ah w _ none).trans g1) hf1);clear g1 hf1 HS;have HP:Hid (∀o,o=Obj.cells #[.string s,Im k.kind,.string k.text,Im k.at',Im 0,Im 0,Im 0] 252->kG (w1.alloc o) w1.heap.size s k 0 0 0):=by
  intro o ho;have hh:(w1.alloc o).heap[w1.heap.size]? =some (.cells #[.string s,Im k.kind,.string k.text,Im k.at',Im 0,Im 0,Im 0] 252):=by rw[<-ho];exact aY w1 o
  exact⟨jI hh,jI hh,jI hh,jI hh,jI hh,jI hh,jI hh,λj=>oQ hh⟩
 unfold xJ;go_wp2_with fail;refine(HQ.out _ _ (HP.out _ rfl)).mono ?_;rintro e w2 ⟨v,rfl,e2,p2,g2⟩;have s1:=pR.out.1.size;have hlt:=lY pR.out.2;have hgf:w.grownBy w2 none:=by
  have h1:=pR.out.1.trans (ah w1 (Obj.cells #[.string s,Im k.kind,.string k.text,Im k.at',Im 0,Im 0,Im 0] 252) none);exact h1.andThen g2 (λj e=>by cases e;exact jf s1)
 have hf2:=(g2.block _ (by simp;omega) (by simp;omega)).trans (((ah w1 _ none).block _ (by omega) (by simp)).trans pR.out.2);have hl2:mW L w2 (w1.heap.size+1) w2.heap.size v:=by rw[nX]at e2;exact e2
 have auS:w1.heap.size<w2.heap.size:=by have:=g2.size;rw[nX]at this;omega
 have HM:Hid (∀w3,w2.grownBy w3 (some w1.heap.size)->w3.heap[w.heap.size]? =some (.cells #[Im 0,Im 0] 107)/\w.grownBy w3 none/\∀a b,mW L ((w3.setCell (Ad w.heap.size 0) a).setCell (Ad w.heap.size 1) b) w.heap.size w3.heap.size v):=λw3 h3=>by
  refine⟨(h3.block _ (lY hf2) (by simp;omega)).trans hf2,hgf.andThen h3 (λj e=>by cases e;exact jf s1),λa b=>?_⟩;refine(uJ HL.out).wide _ _ _ _ _ _ ((uJ HL.out).loc _ _ _ _ _ hl2 (λj hj1 hj2=>?_)) (by omega) h3.size;rw[bC _ _ _ _ (by simp only;omega),bC _ _ _ _ (by simp only;omega)];exact h3.block j hj2 (by simp;omega)
 have HP2:=jA p2;have KC:=jA (Eh p2);have c1:=kG.c1 p2;clear e2 p2 g2 hf2 hgf HP HQ pR hl2;generalize w1.heap.size=P at *;by_cases hk:q.k.kind=1
 .rw[hk]at c1;have hq:FH q=q:=by unfold FH;rw[jh hk]
  have c5:=kG.c5 HP2.out;have c6:=kG.c6 HP2.out;obtain⟨f1,f2,f3⟩:=HM.out w2 (aN _ _);have r0:=jK 0 f1 rfl;have r1:=jK 1 f1 rfl;have rf:=qV f1;have HR:=jA (jd f1 (jd f2 f3));clear f1 f2 f3 KC;by_cases he:q.en=0
  .have KJ:Hid (xB (L,q)=(L,0,0)):=by
    have h0:xB (L,q)=(L,0,0):=by unfold xB;simp only[hq,jh he]
    exact h0
   rw[he]at c5;clear hq hk he;go_wp2_with fail;have z2:=Dy w2 w.heap.size _ _ _ (Im 0) (Im 0) HR.out.1;refine cu (Qz _ _ w.heap.size _ 0 0 rfl rfl z2) rfl ?_;rw[KJ.out];refine⟨_,rfl,?_,pK (pK HR.out.2.1 (aj _) _ _) (aj _) _ _⟩;have hsz:((w2.setCell (Ad w.heap.size 0) (Im 0)).setCell (Ad w.heap.size 1) (Im 0)).heap.size=w2.heap.size:=by simp[World.setCell]
   rw[hsz];exact HR.out.2.2 _ _
  .have KJ:Hid (xB (L,q)=([],q.en,q.ea)):=by
    have h0:xB (L,q)=([],q.en,q.ea):=by unfold xB;simp only[hq,jg he]
    exact h0
   have hb:(q.en !=0)=true:=by simp[he]
   clear hq hk;go_wp2_with fail;refine nP 5 (by kernel_rfl) (by kernel_rfl) ?_;simp only[aC,aO,aG,aQ];repeat (go_big_quiet_step (fail))
   refine bF ?_;intro _ hw';obtain⟨n3,hw''⟩:=hw';subst hw'';go_wp2_with fail;have z2:=Dy w2 w.heap.size _ _ _ (Im q.en) (Im q.ea) HR.out.1;refine cu (Qz _ _ w.heap.size _ q.en q.ea rfl rfl z2) rfl ?_;rw[KJ.out];exact⟨_,rfl,jf ⟨rfl,rfl⟩,(pK (pK HR.out.2.1 (aj _) _ _) (aj _) _ _).trans (lK _ _)⟩
 .have hq:FH q=q.fail:=by unfold FH;rw[jg hk]
  have he:¬q.fail.en=0:=by unfold Ps.fail;simp only;split<;>omega
  have KJ:Hid (xB (L,q)=([],q.fail.en,q.fail.ea)):=by
   have h0:xB (L,q)=([],q.fail.en,q.fail.ea):=by unfold xB;simp only[hq,jg he]
   exact h0
  have hb:(q.fail.en !=0)=true:=by simp[he]
  have hb1:(q.k.kind !=1)=true:=by simp[hk]
  clear hq hk;go_wp2_with fail;refine KC.out.mono ?_;rintro e w3 ⟨rfl,p3,g3⟩;have c5:=kG.c5 p3;have c6:=kG.c6 p3;obtain⟨f1,f2,f3⟩:=HM.out w3 g3;have r0:=jK 0 f1 rfl;have r1:=jK 1 f1 rfl;have rf:=qV f1;have HR:=jA (jd f1 f2);clear f1 f2 f3 KC p3 g3;go_wp2_with fail;refine nP 5 (by kernel_rfl) (by kernel_rfl) ?_;simp only[aC,aO,aG,aQ];repeat (go_big_quiet_step (fail))
  refine bF ?_;intro _ hw';obtain⟨n3,hw''⟩:=hw';subst hw'';go_wp2_with fail;have z2:=Dy w3 w.heap.size _ _ _ (Im q.fail.en) (Im q.fail.ea) HR.out.1;refine cu (Qz _ _ w.heap.size _ q.fail.en q.fail.ea rfl rfl z2) rfl ?_;rw[KJ.out];exact⟨_,rfl,jf ⟨rfl,rfl⟩,(pK (pK HR.out.2 (aj _) _ _) (aj _) _ _).trans (lK _ _)⟩
theorem aph(s:ji)(w:jk):Calls prog 88 #[.string s] w λe w'=>∃v,e=.returned (.tuple #[v,.agg #[Im (oC s).2.1,Im (oC s).2.2]])/\mW (oC s).1 w' w.heap.size w'.heap.size v/\w.grownBy w' none:=by
 unfold oC;split
 .rename_i h;refine(apj h).mono ?_;rintro e w' ⟨rfl,hg⟩;exact⟨_,rfl,jf ⟨rfl,rfl⟩,hg⟩
 .exact apk (by omega)
theorem Vr(d:Nat):zF d []:=ac4 (by simp) (by simp)
theorem as7(hs:s.size<=4000)(d:Nat)(p:Ps):zF d (lZ s d p).1:=
 Q9 s mD Ae zF (akv s hs) (λd=>am4 (s.size+1) (by omega) d) Vr (λ_ _ hl h=>ac4 h (by omega)) d p
def mO(s:ji):List jG×Int×Int:=
 if (oC s).2.1≠0 then ([],(oC s).2.1,(oC s).2.2)
 else if (qy (oC s).1 ⟨[],0,0⟩).en≠0 then ([],(qy (oC s).1 ⟨[],0,0⟩).en,(qy (oC s).1 ⟨[],0,0⟩).ea)
 else if 1000000<sumOf (oC s).1 then ([],4,0)else ((oC s).1,0,0)
theorem apm(s:ji):zF 21 (oC s).1/\(oC s).1.length<=5000:=by
 unfold oC;split
 .exact⟨Vr _,by simp⟩
 .have hs:s.size<=4000:=by omega
  unfold xB;split
  .exact⟨as7 hs 21 _,by have:=agi s 21 (xE s);show(lZ s 21 (xE s)).1.length<=5000;omega⟩
  .exact⟨Vr _,by simp⟩
theorem Ox(tmps:Array jm)(w:jk)(g:Nat)(v:jm)(a b:Int)(h2:tmps[2]? =some v)(h3:tmps[3]? =some (Pt g 0))(h:w.heap[g]? =some (.cells #[Im a,Im b] 107)):
 (results Tryz.f44 tmps).run prog w=.ok (.tuple #[v,.agg #[Im a,Im b]]) w:=by
 have q0:=jK 0 h rfl;have q1:=jK 1 h rfl;simp[results,Tryz.results44,go_sem,h2,h3,q0,q1]
theorem aaq(s:ji)(w:jk):Calls prog 44 #[.string s] w λe w'=>∃v,e=.returned (.tuple #[v,.agg #[Im (mO s).2.1,Im (mO s).2.2]])/\mW (mO s).1 w' w.heap.size w'.heap.size v/\w.grownBy w' none:=by
 have HP:=jA (λy=>aph s y);obtain⟨hL,hlen⟩:=apm s;have HD:Hid (mO s=if (oC s).2.1≠0 then ([],(oC s).2.1,(oC s).2.2)
  else if (qy (oC s).1 ⟨[],0,0⟩).en≠0 then ([],(qy (oC s).1 ⟨[],0,0⟩).en,(qy (oC s).1 ⟨[],0,0⟩).ea)
  else if 1000000<sumOf (oC s).1 then ([],4,0)else ((oC s).1,0,0)):=rfl
 have HL:=jA (jd hL hlen);clear hL hlen;generalize mO s=R at *;generalize oC s=P at *;obtain⟨L,en,ea⟩:=P;simp only at HP HL HD;go_enter func44,ntmps44;go_wp2_with fail;refine(HP.out _).mono ?_;rintro e w1 ⟨v,rfl,h1,g1⟩;rw[nX]at h1;have s1:=g1.size;rw[nX]at s1;have hf1:=(g1.block _ (by simp) (by simp)).trans (aY w _);have pR:=jA (jd ((ah w _ none).trans g1) (jd hf1 h1));have r0:=jK 0 hf1 rfl;have r1:=jK 1 hf1 rfl;have rf:=qV hf1;have hlt:=lY hf1;have n1:¬w.heap.size=w1.heap.size:=by omega
 clear g1 hf1 h1 HP;by_cases he:en=0
 .subst he;have hvf:=Jz pR.out.2.2;obtain⟨va,vn,vc,rfl⟩:=hvf;have hB:Calls prog 89 #[Pt (w1.heap.size+1) 0,.slice va vn vc] ((w1.alloc (.cells #[Im 0,Im ea] 107)).alloc (.cells #[Nl,Im 0,Im 0] 188)) λen w'=>en=.returned (.tuple #[])/\mW L w' (w.heap.size+1) w1.heap.size (.slice va vn vc)/\kY w' (w1.heap.size+1) (qy L ⟨[],0,0⟩)/\Lk ((w1.alloc (.cells #[Im 0,Im ea] 107)).alloc (.cells #[Nl,Im 0,Im 0] 188)) w' (w.heap.size+1) w1.heap.size (w1.heap.size+1):=by
   have hgg:w1.grownBy ((w1.alloc (.cells #[Im 0,Im ea] 107)).alloc (.cells #[Nl,Im 0,Im 0] 188)) none:=(ah w1 _ none).trans (ah _ _ none);have hl2:=HL.out.1.law.loc _ _ _ _ _ pR.out.2.2 (λb _ hb=>hgg.block b hb (by simp));exact HL.out.1.look _ _ _ _ _ ⟨[],0,0⟩ hl2 (by omega) ⟨Nl,Uf w1 _ _,fK _ _ _ _⟩ (by simp)
  have HB:Hid (Calls prog 89 #[Pt (w1.heap.size+1) 0,.slice va vn vc] ((w1.alloc (.cells #[Im 0,Im ea] 107)).alloc (.cells #[Nl,Im 0,Im 0] 188)) λen w'=>en=.returned (.tuple #[])/\mW L w' (w.heap.size+1) w1.heap.size (.slice va vn vc)/\kY w' (w1.heap.size+1) (qy L ⟨[],0,0⟩)/\w'.heap[w.heap.size]? =some (.cells #[Im 0,Im 0] 107)/\w.grownBy w' none/\w1.heap.size+1<w'.heap.size):=hB.mono λen w' ⟨q1,q2,q3,q4⟩=>by
   have hgg:w1.grownBy ((w1.alloc (.cells #[Im 0,Im ea] 107)).alloc (.cells #[Nl,Im 0,Im 0] 188)) none:=(ah w1 _ none).trans (ah _ _ none);have hg2:=pR.out.1.trans hgg;refine⟨q1,q2,q3,?_,⟨q4.os.trans hg2.os,q4.tape.trans hg2.tape,q4.output.trans hg2.output,dH hg2.size q4.size,λk hk _=>(q4.keep k (by omega) (jf (by omega))).trans (hg2.block k hk (by simp))⟩,q3.lt⟩;exact(q4.keep _ (by omega) (jf (by omega))).trans ((hgg.block _ hlt (by simp)).trans pR.out.2.1)
  clear hB;go_wp2_with fail;refine HB.out.mono ?_;rintro e w2 ⟨rfl,q1,⟨nv,q2⟩,q3,q4,q5⟩;have HQ:=jA (jd q1 (jd q3 q4));have EY:=jA (Iw HL.out.1.ok (by have:=HL.out.2;omega) (Ic HL.out.1.ok q1));have y1:=jK 1 q2.jM rfl;have y2:=jK 2 q2.jM rfl;have z0:=jK 0 q3 rfl;have z1:=jK 1 q3 rfl;have zf:=qV q3;clear q1 q2 q3 q4 HB r0 r1 rf;generalize hcc:qy L ⟨[],0,0⟩=cc at *;obtain⟨cn,ce,ca⟩:=cc;simp only at y1 y2 HD;by_cases hce:ce=0
  .subst hce;by_cases hsum:1000000<sumOf L
   .have HD2:Hid (R=([],4,0)):=by have h0:=HD.out;simp only[ne_eq,not_true_eq_false,cZ,jh hsum]at h0;exact h0
    have d1:decide ((1000000:Int)<sumOf L)=true:=by simpa using hsum
    clear HD;go_wp2_with fail;refine EY.out.mono ?_;rintro e w3 ⟨rfl,g3⟩;have hf3:=(g3.block _ (lY HQ.out.2.1) (by simp)).trans HQ.out.2.1;have a0:=jK 0 hf3 rfl;have a1:=jK 1 hf3 rfl;have af:=qV hf3;have yJ:=jA (jd hf3 (HQ.out.2.2.trans g3));clear g3 hf3;go_wp2_with fail;have z2:=Dy w3 w.heap.size _ _ _ (Im 4) (Im 0) yJ.out.1;refine cu (Ox _ _ w.heap.size _ 4 0 rfl rfl z2) rfl ?_;rw[HD2.out];exact⟨_,rfl,jf ⟨rfl,rfl⟩,pK (pK yJ.out.2 (aj _) _ _) (aj _) _ _⟩
   .have HD2:Hid (R=(L,0,0)):=by have h0:=HD.out;simp only[ne_eq,not_true_eq_false,cZ,jg hsum]at h0;exact h0
    have d1:decide ((1000000:Int)<sumOf L)=false:=by simpa using hsum
    clear HD;go_wp2_with fail;refine EY.out.mono ?_;rintro e w3 ⟨rfl,g3⟩;have hf3:=(g3.block _ (lY HQ.out.2.1) (by simp)).trans HQ.out.2.1;have a0:=jK 0 hf3 rfl;have a1:=jK 1 hf3 rfl;have af:=qV hf3;have yJ:=jA (jd hf3 (jd (HQ.out.2.2.trans g3) g3));clear g3 hf3;go_wp2_with fail;have z2:=Dy w3 w.heap.size _ _ _ (Im 0) (Im 0) yJ.out.1;refine cu (Ox _ _ w.heap.size _ 0 0 rfl rfl z2) rfl ?_;rw[HD2.out];refine⟨_,rfl,?_,pK (pK yJ.out.2.1 (aj _) _ _) (aj _) _ _⟩;have hsz:((w3.setCell (Ad w.heap.size 0) (Im 0)).setCell (Ad w.heap.size 1) (Im 0)).heap.size=w3.heap.size:=by simp[World.setCell]
    rw[hsz];have s3:=yJ.out.2.2.size;refine HL.out.1.law.wide _ _ _ _ _ _ (HL.out.1.law.loc _ _ _ _ _ HQ.out.1 (λj hj1 hj2=>?_)) (by omega) (by omega);rw[bC _ _ _ _ (by simp only;omega),bC _ _ _ _ (by simp only;omega)];exact yJ.out.2.2.block j (by omega) (by simp)
  .have HD2:Hid (R=([],ce,ca)):=by have h0:=HD.out;simp only[ne_eq,not_true_eq_false,cZ,hce,not_false_eq_true,dM]at h0;exact h0
   have hb:(ce !=0)=true:=by simp[hce]
   clear HD;go_wp2_with fail;refine nP 3 (by kernel_rfl) (by kernel_rfl) ?_;simp only[aC,aO,aG,aQ];repeat (go_big_quiet_step (fail))
   refine bF ?_;intro _ hw';obtain⟨n3,hw''⟩:=hw';subst hw'';go_wp2_with fail;have z2:=Dy w2 w.heap.size _ _ _ (Im ce) (Im ca) HQ.out.2.1;refine cu (Ox _ _ w.heap.size _ ce ca rfl rfl z2) rfl ?_;rw[HD2.out];exact⟨_,rfl,jf ⟨rfl,rfl⟩,(pK (pK HQ.out.2.2 (aj _) _ _) (aj _) _ _).trans (lK _ _)⟩
 .have hb:(en !=0)=true:=by simp[he]
  have HD2:Hid (R=([],en,ea)):=by have h0:=HD.out;rw[jh he]at h0;exact h0
  clear HD;go_wp2_with fail;refine nP 2 (by kernel_rfl) (by kernel_rfl) ?_;simp only[aC,aO,aG,aQ];repeat (go_big_quiet_step (fail))
  refine bF ?_;intro _ hw';obtain⟨n3,hw''⟩:=hw';subst hw'';go_wp2_with fail;have z2:=Dy w1 w.heap.size _ _ _ (Im en) (Im ea) pR.out.2.1;refine cu (Ox _ _ w.heap.size _ en ea rfl rfl ((fP _ _ _ (lY z2)).trans z2)) rfl ?_;rw[HD2.out];exact⟨_,rfl,jf ⟨rfl,rfl⟩,(pK (pK pR.out.1 (aj _) _ _) (aj _) _ _).trans ((ah _ _ none).trans (lK _ _))⟩
end
section
variable {w:jk}{C:Nat}{c:Co}{l:List jG}{v nv:jm}
def vM:Co:=⟨[],[],8⟩
def xU(l:List jG):List Int:=((kZ l vM).lay 0 []).code
theorem ajP(w:jk):kD (w.alloc (.cells #[Nl,Nl,Im 8] 197)) w.heap.size vM:=
 ⟨Nl,Nl,aY w _,fK _ _ _ _,fK _ _ _ _,λg e=>by cases e⟩
theorem pI.bytes(h:pI w C v nv c)(hne:c.code≠[]):∃g cap,v=.slice (some (Ad g 0)) c.code.length cap/\∀i,i<c.code.length->w.cell? (Ad g (0+i))=some (.int .u8 (c.code.getD i 0)):=by
 rcases h.code.2 with⟨_,e⟩|⟨g,cap,cur,e1,e2,e3,e4,e5,e6,e7⟩
 .exact jl (List.length_eq_zero_iff.1 e) hne
 .refine⟨g,cap,e1,λi hi=>?_⟩;have hc:w.cell? (Ad g (0+i))=cur[0+i]? :=jI e3;rw[hc];have h1:=congrArg (λl:List jm=>l[i]?) e7;simp only[Nat.mul_one,uF]at h1;rw[iG hi,fV,bU hi]at h1;rw[gW,<-Array.getElem?_toList,h1];simp[List.getD,bU hi]
theorem aaC{lo hi:Nat}(hL:tK l)(hh:wL l w lo hi v)(hhi:hi<=w.heap.size)(hk:sumOf l<=1000000):
 Calls prog 46 #[v] w λe w'=>e=.returned (.string (strOfNums (xU l)))/\w.grownBy w' none:=by
 obtain⟨va,vc,hvf⟩:=FU hh;obtain⟨vn,hvn⟩:∃vn,l.length=vn:=⟨_,rfl⟩;rw[hvn]at hvf;subst hvf;clear hvn;have hsum:=rH hL.ok;have hlen:=hL.len vM hk;have hlen:(kZ l vM).code.length<=300000000:=by have:vM.code.length=0:=rfl;omega
 have H1:Hid (∀o,o=Obj.cells #[Nl,Nl,Im 8] 197->Calls prog 91 #[Pt w.heap.size 0,.slice va vn vc] (w.alloc o) λe w'=>e=.returned (.tuple #[])/\kD w' w.heap.size (kZ l vM)/\w.grownBy w' none):=λo ho=>by
  subst ho;have g0:=ah w (.cells #[Nl,Nl,Im 8] 197) none;refine(hL.lay _ _ _ _ _ _ (hL.zQ.loc _ _ _ _ _ hh λb _ b2=>g0.block b (by omega) (by simp)) hhi (ajP w) ⟨hk,by show(0:Int)+_<=_;omega,by show(0:Int)+_<=_;omega⟩).mono ?_;rintro e w' ⟨e1,e2,e3⟩;refine⟨e1,e2,⟨e3.os.trans g0.os,e3.tape.trans g0.tape,e3.output.trans g0.output,dH g0.size e3.size,λk hk' _=>(e3.keep k hk').trans (g0.block k hk' (by simp))⟩⟩
 clear hh hL;unfold xU;generalize kZ l vM=cb at *;generalize hbs:(cb.lay 0 []).code=bs;have HBs:=jA hbs;clear hbs;go_enter func46,ntmps46;go_wp2_with fail;refine(H1.out _ rfl).mono ?_;rintro e w1 ⟨rfl,p1,g1⟩;have H2:=jA (FM p1 0 (by omega));have HG:=jA g1;clear p1 g1 H1;go_wp2_with fail;refine H2.out.mono ?_;rintro e w2 ⟨rfl,⟨v2,nv2,p2⟩,e2⟩;have HF:Hid (w.grownBy w2 none):=⟨e2.os.trans HG.out.os,e2.tape.trans HG.out.tape,e2.output.trans HG.out.output,dH HG.out.size e2.size,λk hk h=>(e2.keep k hk).trans (HG.out.block k hk h)⟩;have c0:=jK 0 p2.jM rfl;obtain⟨g2,cap2,rfl,hcell⟩:=p2.bytes (by simp[Co.lay]);have hconv:(convert 194 9 (.slice (some (Ad g2 0)) (cb.lay 0 []).code.length cap2)).run prog w2=.ok (.string (strOfNums (cb.lay 0 []).code)) w2:=run_convert_bytes_arg w2 194 5 (by kernel_rfl) (by kernel_rfl) g2 0 (cb.lay 0 []).code.length cap2 _ rfl (λi hi=>hcell i hi) 9 (by kernel_rfl);rw[HBs.out]at hconv c0;clear p2 e2 H2 HG hcell;generalize bs.length=nb at *;go_wp2_with fail;go_ret;exact⟨rfl,HF.out⟩
theorem apn(s:ji):tK (oC s).1:=by
 unfold oC;split
 .exact Ht (by simp)
 .have hs:s.size<=4000:=by omega
  unfold xB;split
  .exact as6 s hs 21 _
  .exact Ht (by simp)
theorem aar(s:ji)(h:(mO s).2.1=0):tK (mO s).1/\sumOf (mO s).1<=1000000:=by
 unfold mO at h⊢;split at h
 .contradiction
 split at h
 .contradiction
 split at h
 .exact jl h (by decide)
 .rename_i h1 h2 h3;rw[jg h1,jg h2,jg h3];exact⟨apn s,by show sumOf (oC s).1<=1000000;omega⟩
def BN(s:ji):ji×Int×Int:=if (mO s).2.1≠0 then (⟨#[]⟩,(mO s).2.1,(mO s).2.2)else (strOfNums (xU (mO s).1),0,0)
theorem ajT(s:ji)(w:jk):Calls prog 12 #[.string s,.bool false] w λe w'=>e=.returned (.tuple #[.string (BN s).1,Im (BN s).2.1,Im (BN s).2.2])/\w.grownBy w' none:=by
 have HC:=jA (aaq s w);have DX:=jA (aar s);unfold BN;generalize mO s=R at *;obtain⟨L,en,ea⟩:=R;simp only at HC DX⊢;by_cases he:en=0
 .subst he;obtain⟨hL,hk⟩:=DX.out rfl;have HL:=jA (jd hL hk);clear DX hL hk;simp only[ne_eq,not_true_eq_false,cZ];generalize hcs:strOfNums (xU L)=cs at *;have RF:=jA hcs;clear hcs;go_enter func12,ntmps12;go_wp2_with fail;refine HC.out.mono ?_;rintro e w1 ⟨v,rfl,h1,g1⟩;obtain⟨va,vn,vc,rfl⟩:=Jz h1;have HK:Hid (∀o,Calls prog 46 #[.slice va vn vc] (w1.alloc o) λe w'=>e=.returned (.string cs)/\w.grownBy w' none):=λo=>by
   rw[<-RF.out];have g0:=ah w1 o none;refine(aaC HL.out.1 (HL.out.1.flat (HL.out.1.law.loc _ _ _ _ _ h1 λb _ b2=>g0.block b (by omega) (by simp))) (dH (aj _) g0.size) HL.out.2).mono ?_;rintro e w' ⟨q1,q2⟩;exact⟨q1,(g1.trans g0).trans q2⟩
  clear h1 g1 HC HL;go_wp2_with fail;refine(HK.out _).mono ?_;rintro e w2 ⟨rfl,g2⟩;have HG:=jA g2;clear g2 HK;go_wp2_with fail;exact cu (by simp[results,Tryz.results12,go_sem]) rfl ⟨rfl,HG.out⟩
 .have hb:(en !=0)=true:=by simp[he]
  clear DX;rw[jh he];go_enter func12,ntmps12;go_wp2_with fail;refine HC.out.mono ?_;rintro e w1 ⟨v,rfl,h1,g1⟩;have HG:=jA g1;clear h1 g1 HC;go_wp2_with fail;go_quiet (fail);go_wp2_with fail;exact cu (by simp[results,Tryz.results12,go_sem]) rfl ⟨rfl,HG.out.trans ((ah _ _ none).trans (lK _ _))⟩
end
section
variable {w w' w1 w2 w3:jk}{lo hi m b H:Nat}{u v:jm}{e l r:Ex}{a:Int}{T:jo}
structure Fk(w w':jk)(lo hi:Nat):Prop where
 os:w'.os=w.os
 tape:w'.tape=w.tape
 output:w'.output=w.output
 size:w.heap.size<=w'.heap.size
 keep:∀k,k<w.heap.size->(k<lo\/hi<=k)->w'.heap[k]? =w.heap[k]?
theorem Fk.refl(w:jk)(lo hi:Nat):Fk w w lo hi:=⟨rfl,rfl,rfl,aj _,λ_ _ _=>rfl⟩
theorem Fk.trans(h:Fk w w1 lo hi)(k:Fk w1 w2 lo hi):Fk w w2 lo hi:=by
 have s1:=h.size;exact⟨k.os.trans h.os,k.tape.trans h.tape,k.output.trans h.output,dH h.size k.size,λj h1 h2=>(k.keep j (by omega) h2).trans (h.keep j h1 h2)⟩
theorem Fk.wide{lo' hi':Nat}(h:Fk w w' lo hi)(h1:lo'<=lo)(h2:hi<=hi'):Fk w w' lo' hi':=⟨h.os,h.tape,h.output,h.size,λk k1 k2=>h.keep k k1 (by omega)⟩
theorem Fk.grown(h:w.grownBy w' none):Fk w w' lo hi:=⟨h.os,h.tape,h.output,h.size,λk hk _=>h.block k hk (by simp)⟩
theorem Fk.set{j:Nat}(h1:lo<=b)(h2:b<hi):Fk w (w.setCell (Ad b j) u) lo hi:=by
 have g:=nK w b j u;exact⟨g.os,g.tape,g.output,g.size,λk hk h3=>g.block k hk (by intro e;cases e;omega)⟩
def qm(w w':jk)(lo m H hi:Nat):Prop:=∀k,(lo<=k/\k<m)\/(H<=k/\k<hi)->w'.heap[k]? =w.heap[k]?
theorem qm.refl(w:jk)(lo m H hi:Nat):qm w w lo m H hi:=λ_ _=>rfl
theorem qm.trans(h:qm w w1 lo m H hi)(k:qm w1 w2 lo m H hi):qm w w2 lo m H hi:=λj hj=>(k j hj).trans (h j hj)
theorem qm.less{lo' m' H' hi':Nat}(h:qm w w' lo' m' H' hi')(h1:lo'<=lo)(h2:m<=m')(h3:H'<=H)(h4:hi<=hi'):qm w w' lo m H hi:=λj hj=>h j (by omega)
def yL(T:jo):Prop:=T≠405/\T≠392/\T≠379
def BH(f:oM)(k:Int)(w:jk)(lo hi:Nat)(T:jo)(b:Nat)(e:Ex)(T2:jo)(b2:Nat):Prop:=
 (f.tag=1/\T=405/\w.cell? (Ad b 3)=some (Im f.val))\/
 (f.tag=2/\T=392/\∃t:Bool,w.cell? (Ad b 3)=some (.bool t)/\f.val=if t then 1 else 0)\/
 (f.tag=3/\T=379/\w.cell? (Ad b 4)=some (.iface T2 (Pt b2 0))/\yL T2/\kC e/\e.does.give=f.sub/\e.jw<=k/\e.here e.at' w lo hi (.iface T2 (Pt b2 0)))\/
 (f.tag=0/\yL T)
def mJ(f:oM)(k:Int)(w:jk)(lo m H hi:Nat)(v:jm):Prop:=
 ∃(e:Ex)(T:jo)(b:Nat)(e2:Ex)(T2:jo)(b2:Nat),v=.iface T (Pt b 0)/\lU T/\((lo<=b/\b<m)\/(H<=b/\b<hi))/\kC e/\e.does.give=f.give/\e.jw<=k/\(f.tag=3->lU T2/\((lo<=b2/\b2<m)\/(H<=b2/\b2<hi)))/\
  ∀w',qm w w' lo m H hi->e.here e.at' w' lo hi v/\BH f k w' lo hi T b e2 T2 b2
theorem BH.wide{f:oM}{k k':Int}{lo' hi':Nat}{e:Ex}{T2:jo}{b2:Nat}(h:BH f k w lo hi T b e T2 b2)(h1:lo'<=lo)(h2:hi<=hi')(hk:k<=k'):BH f k' w lo' hi' T b e T2 b2:=by
 rcases h with h|h|⟨e1,e2,e3,e4,e5,e6,e7,e8⟩|h
 .exact jf h
 .exact je (jf h)
 .exact je (je (jf ⟨e1,e2,e3,e4,e5,e6,by omega,(e5.ok.law _).wide _ _ _ _ _ _ e8 h1 h2⟩))
 .exact je (je (je h))
theorem mJ.later{f:oM}{k:Int}(h:mJ f k w lo m H hi v)(ha:qm w w' lo m H hi):mJ f k w' lo m H hi v:=by
 obtain⟨e,T,b,e2,T2,b2,h1,h2,h3,h4,h5,h6,h8,h7⟩:=h;exact⟨e,T,b,e2,T2,b2,h1,h2,h3,h4,h5,h6,h8,λw2 hw=>h7 w2 (ha.trans hw)⟩
theorem mJ.wide{f:oM}{k k':Int}{lo' m' H' hi':Nat}(h:mJ f k w lo m H hi v)(h1:lo'<=lo)(h2:m<=m')(h3:H'<=H)(h4:hi<=hi')(hk:k<=k'):mJ f k' w lo' m' H' hi' v:=by
 obtain⟨e,T,b,x2,T2,b2,e1,e2,e3,e4,e5,e6,e8,e7⟩:=h;refine⟨e,T,b,x2,T2,b2,e1,e2,by omega,e4,e5,by omega,λht=>⟨(e8 ht).1,by have:=(e8 ht).2;omega⟩,λw2 hw=>?_⟩;obtain⟨q1,q2⟩:=e7 w2 (hw.less h1 h2 h3 h4);exact⟨(e4.ok.law _).wide _ _ _ _ _ _ q1 h1 h4,q2.wide h1 h4 hk⟩
structure nR(e:Ex):Prop where
 l7:kC e
 fold:∀a w lo hi T b,e.here a w lo hi (.iface T (Pt b 0))->hi<=w.heap.size->
  ∃f,(∀w,(method 576 T (Pt b 0) "helm/lang.fold").run prog w=.ok (f,Pt b 0) w)/\Enters f/\
   Calls prog f #[Pt b 0] w λen w'=>∃v',en=.returned v'/\mJ e.does.fd e.jw w' lo hi w.heap.size w'.heap.size v'/\Fk w w' lo hi
theorem asb{a:Int}(he:kC e)(hg:e.does.fd.give=e.does.give)(hh:e.here a w lo hi (.iface T (Pt b 0)))(h3:e.does.fd.tag≠3)(hT:∀w',e.here a w' lo hi (.iface T (Pt b 0))->BH e.does.fd e.jw w' lo hi T b rF 0 0)(h2:hi<=w.heap.size):mJ e.does.fd e.jw w lo hi w.heap.size w.heap.size (.iface T (Pt b 0)):=by
 obtain⟨T',b',hv,hI,b1,b2,_⟩:=he.ok.head _ _ _ _ _ hh;cases hv;refine⟨{e with at':=a,does:=e.does.fd.dn},T,b,rF,0,0,rfl,hI,jf ⟨b1,b2⟩,he.of ⟨he.ok.law,he.ok.head,he.ok.jw⟩ (λ_ _ _ _ _ h=>h) rfl hg,rfl,aV _,λh=>jl h h3,λw' ha=>?_⟩;have hw:=(he.ok.law _).loc _ _ _ _ _ hh λk k1 k2=>ha k (jf ⟨k1,k2⟩);exact⟨(he.ok.law _).wide _ _ _ _ _ _ hw (aj _) h2,(hT w' hw).wide (aj _) h2 (aV _)⟩
theorem PX(he:kC e)(hg:e.does.fd.give=e.does.give)(h3:e.does.fd.tag≠3)(hT:∀a w lo hi T b,e.here a w lo hi (.iface T (Pt b 0))->BH e.does.fd e.jw w lo hi T b rF 0 0)
 (hw:∀a w lo hi T b,e.here a w lo hi (.iface T (Pt b 0))->∃f,(∀w,(method 576 T (Pt b 0) "helm/lang.fold").run prog w=.ok (f,Pt b 0) w)/\Enters f/\Calls prog f #[Pt b 0] w λen w'=>en=.returned (.iface T (Pt b 0))/\w'=w):nR e:=by
 refine⟨he,λa w lo hi T b hh h2=>?_⟩;obtain⟨f,m1,f1,H1⟩:=hw a w lo hi T b hh;refine⟨f,m1,f1,H1.mono ?_⟩;rintro en w' ⟨e1,rfl⟩;exact⟨_,e1,asb he hg hh h3 (λw2 h=>hT a w2 lo hi T b h) h2,Fk.refl _ _ _⟩
theorem aox(a0 n:Int):nR (kN a0 n):=by
 refine PX (adU a0 n) rfl (by show(1:Int)≠3;decide) ?_ ?_
 .rintro a w lo hi T b ⟨b',us,hv,h1,h2,h3,hb⟩;cases hv;exact jf ⟨rfl,rfl,jI hb⟩
 .rintro a w lo hi T b ⟨b',us,hv,h1,h2,h3,hb⟩;cases hv;refine⟨388,λw=>by kernel_rfl,λargs w=>by kernel_rfl,?_⟩;clear hb h3;go_enter func388,ntmps388;go_wp2_with fail;go_ret;exact⟨rfl,rfl⟩
theorem Xa{a0 jw kind:Int}{t:Bool}(hok:kV (zY a0 jw kind t)):nR (zY a0 jw kind t):=by
 refine PX (Xb hok) rfl (by show(2:Int)≠3;decide) ?_ ?_
 .rintro a w lo hi T b ⟨b',us,hv,h1,h2,h3,hb⟩;cases hv;exact je (jf ⟨rfl,rfl,t,jI hb,rfl⟩)
 .rintro a w lo hi T b ⟨b',us,hv,h1,h2,h3,hb⟩;cases hv;refine⟨379,λw=>by kernel_rfl,λargs w=>by kernel_rfl,?_⟩;clear hb h3;go_enter func379,ntmps379;go_wp2_with fail;go_ret;exact⟨rfl,rfl⟩
theorem Ia{f:oM}{k:Int}{e:Ex}{T2:jo}{b2:Nat}(hf:f.tag=0)(h:yL T):BH f k w lo hi T b e T2 b2:=je (je (je ⟨hf,h⟩))
theorem aqN(a0 i:Int):nR (wQ a0 i):=by
 refine PX (afb a0 i) rfl (by show(0:Int)≠3;decide) ?_ ?_
 .rintro a w lo hi T b ⟨b',us,hv,h1,h2,h3,hb⟩;cases hv;exact Ia rfl (by unfold yL;decide)
 .rintro a w lo hi T b ⟨b',us,hv,h1,h2,h3,hb⟩;cases hv;refine⟨373,λw=>by kernel_rfl,λargs w=>by kernel_rfl,?_⟩;clear hb h3;go_enter func373,ntmps373;go_wp2_with fail;go_ret;exact⟨rfl,rfl⟩
theorem atO(a0:Int)(t:Wd):nR (oZ a0 t):=by
 refine PX (agW a0 t) rfl (by show(0:Int)≠3;decide) ?_ ?_
 .rintro a w lo hi T b ⟨k,b',us,hv,h1,h2,h3,hb⟩;cases hv;exact Ia rfl (by unfold yL;decide)
 .rintro a w lo hi T b ⟨k,b',us,hv,h1,h2,h3,hb⟩;cases hv;refine⟨376,λw=>by kernel_rfl,λargs w=>by kernel_rfl,?_⟩;clear hb h3;go_enter func376,ntmps376;go_wp2_with fail;go_ret;exact⟨rfl,rfl⟩
theorem atV(h:nR e)(a:Int):nR (e.widen a):=⟨ag4 h.l7 a,h.fold⟩
end
end
end Go.Proofs.YthllhabjfchgiaaGreatDoor
