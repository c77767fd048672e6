import Derived.Test.YthllhabjfchgiaaGreatDoorHb34
import Derived.Test.YthllhabjfchgiaaGreatDoorHb33
set_option maxRecDepth 100000
set_option maxHeartbeats 8000000
set_option linter.unusedSimpArgs false
namespace Go.Proofs.YthllhabjfchgiaaGreatDoor
open _root_.Go.Proofs.Tryz
section
open Go.RowKit Hx
attribute [local go_sem ↓] Go.wp_at_zero Go.wp_at_succ
attribute [local go_sem] kL
section
variable {s:jm}{ex:Ps->Ex×Ps}{d:Nat}{p:Ps}
theorem ab3:(prog.info? 361).map (λi=>(i.zero,i.size,i.bytes))=some (some (.agg #[.string ⟨#[]⟩,Im 0,.nilIface]),3,40):=by kernel_rfl
structure SQ(s:jm)(ex:Ps->Ex×Ps)(d:Nat)(R:(Sx×Bool)×Ps)(P:Nat)(w:jo)(S:Nat)(wr:jo)(gg:Nat)(fv:jr)(g:Nat)(x:Sx)(us:List jr)(q:Ps)(m:Nat):Prop where
 heap:rV P w wr S fv g x us m
 pr:jR wr P s q
 ok:q.Ok s
 deep:Deep (d+1) q
 zZ:oU x
 fuel:(s.size:Int)+1-q.k.at'<=gg
 len:x.jF.length+gg<=100000
 eq:qM s ex gg x q=R
theorem aoO{w w':jo}{P:Nat}{q:Ps}(h:jR w P s q)(hb:w'.heap[P]? =w.heap[P]?):jR w' P s q:=by
 have h:=h;have hc:∀j,w'.cell? (Ad P j)=w.cell? (Ad P j):=λj=>bQ hb;exact⟨by rw[hc];exact h.c0,by rw[hc];exact h.c1,by rw[hc];exact h.c2,by rw[hc];exact h.c3,by rw[hc];exact h.c4,by rw[hc];exact h.c5,by rw[hc];exact h.c6,
  λj=>(dZ hb).trans (h.fr j)⟩
theorem Wx{w:jo}{B n:Nat}{v:jr}{us:List jr}(h:w.ownsRow B 361 3 v n us):∃a c,v=.slice a n c:=by
 rcases h with⟨_,⟨h2,h3⟩|⟨g,cap,cur,h2,_⟩⟩
 .subst h3;exact⟨_,_,h2⟩
 .exact⟨_,_,h2⟩
theorem ai8{q:Ps}{gg:Nat}(ok:q.Ok s)(hf:(s.size:Int)+1-q.k.at'<=gg)(h:q.is [46]=true):∃g',gg=g'+1/\(s.size:Int)+1-(q.next s).k.at'<=g':=by
 have h1:=ok.tok.bd;have h2:=Gi ok;have h3:=ok.tok.oQ;have h4:q.k.text.size=1:=by
  have h5:=eq_of_beq h;have h6:q.k.text.data.toList.length=1:=by rw[h5];rfl
  exact h6
 refine⟨gg-1,?_,?_⟩<;>omega
theorem aqj(hs:s.size<=4000)(h:Reader s ex d)(ok:p.Ok s)(hd:Deep (d+1) p)(of:Int)(hof:setOf p.k.text.data.toList=some of):yK s p (qM s ex (s.size+1) ⟨p.k.at',1,p.k.text,of,[]⟩ (p.next s)):=by
 intro P w hp;have hlt:=hp.lt;have hL:=kG.lt hp;have gn:=nV ok (adx hof);have e2:∀x:Ext w,x.val.cell? (Ad P 2)=some (.string p.k.text):=λx=>(kG.grow hp x.grown).c2;have e3:∀x:Ext w,x.val.cell? (Ad P 3)=some (Im p.k.at'):=λx=>(kG.grow hp x.grown).c3;have hne:=OU w;have HW:=jB (λw' (hg:w.grownBy w' none)=>kG.grow hp hg);have HX:Hid (∀x:Ext w,Calls prog 234 #[Im p.k.at',Nl] x.val λe w''=>e=.returned (.agg #[Im p.k.at',Im 1])/\∃y:Ext w,w''=y.val):=λx=>aaR _ x;have Si:Hid (∀q:Ps,q.Ok s->∀x,jR x P s q->Calls prog 236 #[Pt P 0] x (qG P s x (xu q.k) (q.next s))):=λq o x hx=>wX hx o hs;have Y4:=jB (λx (hx:jR x P s p)=>wX hx ok hs);have GR:Hid (∀q:Ps,q.Ok s->Deep (d+1) q->∀x,jR x P s q->Calls prog 257 #[Pt P 0] x λe w'=>∃u,e=.returned (Jc (pY s ex q).1.1 u)/\(pY s ex q).1.2.here (pY s ex q).1.2.at' w' x.heap.size w'.heap.size u/\jR w' P s (pY s ex q).2/\x.grownBy w' (some P)):=λq o hq x hx=>ZR hs h o hq P x hx;have HG:=jB h.good;have hor:of=3/\(p.k.text.toList==[82,79,65,68,83])=true\/of=4/\(p.k.text.toList==[82,79,65,68,83])=false/\((p.k.text.toList==[70,82,69,83,72])=true\/(p.k.text.toList==[70,82,69,83,72])=false/\(p.k.text.toList==[65,71,65,73,78])=true):=by
  rw[aZ];unfold setOf at hof;generalize p.k.text.data.toList=tl at *;cases h1:(tl==[82,79,65,68,83])with
  |true=>rw[h1]at hof;simp at hof;exact ji ⟨hof.symm,rfl⟩
  |false=>
   rw[h1]at hof;cases h2:(tl==[70,82,69,83,72])with
   |true=>rw[h2]at hof;simp at hof;exact jh ⟨hof.symm,rfl,ji rfl⟩
   |false=>
    cases h3:(tl==[65,71,65,73,78])with
    |true=>rw[h2,h3]at hof;simp at hof;exact jh ⟨hof.symm,rfl,jh ⟨rfl,rfl⟩⟩
    |false=>rw[h2,h3]at hof;simp at hof
 have Zb:Hid (∀wx w2 S,w.grownBy wx (some P)->w.heap.size<=S->wx.heap[S]? =some (.cells #[Im p.k.at',Im 1,.string p.k.text,Im of,Nl] 348)->jR w2 P s (p.next s)->wx.grownBy w2 (some P)->SQ s ex d (qM s ex (s.size+1) ⟨p.k.at',1,p.k.text,of,[]⟩ (p.next s)) P w S w2 (s.size+1) (Nl) 0 ⟨p.k.at',1,p.k.text,of,[]⟩ [] (p.next s) (S+1)):=λwx w2 S h1 h2 h3 h4 h5=>by
  have hf:oU ⟨p.k.at',1,p.k.text,of,[]⟩:=⟨by simp,Q9 hof,by simp⟩;have h0:rV P w wx S (Nl) 0 ⟨p.k.at',1,p.k.text,of,[]⟩ [] (S+1):=rV.start h3 rfl h2 h1;have hat:=gn.ok.tok.oQ;exact⟨h0.keep hf hlt h5,h4,gn.ok,hd.good gn,hf,by omega,by simp;omega,rfl⟩
 generalize qM s ex (s.size+1) ⟨p.k.at',1,p.k.text,of,[]⟩ (p.next s)=R at *;clear hp h ok hd gn hof;go_enter func243,ntmps243;go_wp2_with fail;refine RN 12 (by kernel_rfl) (by kernel_rfl) ?_;simp only[aC,aO,aG,aQ];repeat (go_big_quiet_step ((go_at_call 234;exact HX.out _)))
 refine bF ?_;intro wx hg;have f2:=kG.c2 (HW.out wx hg);have hPx:=kG.lt (HW.out wx hg);have n1:¬P=wx.heap.size:=by omega
 have RU:=jB hg;clear e2 e3 hg HX;go_upto_block 0 with fail;go_cut [] (λwy=>Hid (jR wy P s p/\wy.heap[wx.heap.size]? =some (.cells #[Im p.k.at',Im 1,.string p.k.text,Im of,Nl] 348)/\w.grownBy wy (some P)))
 case first=>
  have HF:Hid (∀o,o=Obj.cells #[Im p.k.at',Im 1,.string p.k.text,Im of,Nl] 348->jR (wx.alloc o) P s p/\(wx.alloc o).heap[wx.heap.size]? =some (.cells #[Im p.k.at',Im 1,.string p.k.text,Im of,Nl] 348)/\w.grownBy (wx.alloc o) (some P)):=λo ho=>by
   subst ho;exact⟨kG.grow (HW.out wx RU.out) (ah _ _ none),aY _ _,((RU.out).trans (ah _ _ none)).but _⟩
  rcases hor with⟨rfl,t1⟩|⟨rfl,t1,t2|⟨t2,t3⟩⟩;all_goals (go_wp2_with fail;go_meet;exact HF.out _ rfl)
 case rest=>
  obtain⟨hy1,hy2,hy3⟩:=hcut.out;have HY:=jB (jg hy1 (jg hy2 (jg hy3 RU.out.size)));clear hcut hy1 hy2 hy3 hor f2;go_wp2_with fail;refine(Y4.out _ HY.out.1).mono ?_;rintro e w2 ⟨rfl,p2,g2⟩;have HO:=Zb.out _ _ _ HY.out.2.2.1 HY.out.2.2.2 HY.out.2.1 p2 g2;generalize wx.heap.size=S at *;have HO:=jB HO;clear p2 g2 Y4 Zb HY HW;have asg:=HO.out.heap.Gq;go_wp2_with fail;go_loopg [] (s.size+1) (λgg wr=>Hid (∃fv g x us q m,SQ s ex d R P w S wr gg fv g x us q m))
  case atStart=>exact⟨_,_,_,_,_,_,HO.out⟩
  case round=>
   obtain⟨fv,g,x,us,q,m,hI⟩:=hrel.out;clear hrel HO;have HI:=jB hI;have HI1:Hid (Calls prog 242 #[Pt P 0,.string ⟨#[46]⟩] wr λe w'=>e=.returned (.bool (q.is [46]))/\w'=wr):=H9 hI.pr [46];clear hI;cases t0:q.is [46]with
   |false=>
    rw[t0]at HI1;have HF:Hid (R=((x,false),q)):=by
     have:=HI.out.eq;rw[<-this];cases gk with
     |zero=>rfl
     |succ n=>unfold qM;rw[t0];rfl
    go_wp2_with fail;refine HI1.out.mono ?_;rintro e w3 ⟨rfl,rfl⟩;go_wp2_with fail;go_ret2;rw[HF.out];exact⟨_,rfl,HI.out.heap.out,HI.out.pr,HI.out.heap.grown⟩
   |true=>
    rw[t0]at HI1;obtain⟨g',hg',hfu⟩:=ai8 HI.out.ok HI.out.fuel t0;have gn:=nV HI.out.ok (oM (by simp) t0);have Ky:=jB gn;have YU:=jB hfu;have HE:Hid (qM s ex (g'+1) x q=R):=by have:=HI.out.eq;rw[hg']at this;exact this
    clear gn hfu;go_wp2_with fail;refine HI1.out.mono ?_;rintro e w3 ⟨rfl,rfl⟩;go_wp2_with fail;refine(Si.out q HI.out.ok _ HI.out.pr).mono ?_;rintro e w4 ⟨rfl,p4,g4⟩;have nG:=jB (jg p4 g4);have HI2:Hid (Calls prog 242 #[Pt P 0,.string ⟨#[102,105,108,116,101,114]⟩] w4 λe w'=>e=.returned (.bool ((q.next s).is [102,105,108,116,101,114]))/\w'=w4):=H9 p4 _;clear p4 g4 HI1;cases t1:(q.next s).is [102,105,108,116,101,114]with
    |false=>
     rw[t1]at HI2;have HF:Hid (R=((x,true),q.next s)):=by rw[<-HE.out];unfold qM;rw[t0,t1];rfl
     go_wp2_with fail;refine HI2.out.mono ?_;rintro e w5 ⟨rfl,rfl⟩;go_wp2_with fail;go_ret2;rw[HF.out];have hk:=HI.out.heap.keep HI.out.zZ hlt nG.out.2;exact⟨_,rfl,hk.out,nG.out.1,hk.grown⟩
    |true=>
     rw[t1]at HI2;have Jl:=nV Ky.out.ok (oM (by simp) t1);have hd2:=HI.out.deep.good (Ky.out.trans Jl);have Fb:=jB (GR.out _ Jl.ok hd2);obtain⟨gb,xb⟩:=Oy HG.out Jl.ok hd2;have zk:=jB (jg ((Ky.out.trans Jl).trans gb) (jg xb ((Jl.trans gb).mono)));have HE2:Hid (qM s ex g' (x.add (pY s ex ((q.next s).next s)).1) (pY s ex ((q.next s).next s)).2=R):=by
      have:=HE.out;unfold qM at this;rw[t0,t1]at this;exact this
     have Fa:=jB (Si.out _ Ky.out.ok);clear Jl hd2 gb xb HE GR Si;generalize pY s ex ((q.next s).next s)=bq at *;obtain⟨⟨⟨dt,da⟩,be⟩,q2⟩:=bq;simp only at Fb zk HE2;generalize (q.next s).next s=q1 at *;have Fb:Hid (∀y,jR y P s q1->Calls prog 257 #[Pt P 0] y λe w'=>∃u,e=.returned (.agg #[.string dt,Im da,u])/\be.here be.at' w' y.heap.size w'.heap.size u/\jR w' P s q2/\y.grownBy w' (some P)):=Fb.out;go_wp2_with fail;refine HI2.out.mono ?_;rintro e w5 ⟨rfl,rfl⟩;go_wp2_with fail;refine(Fa.out _ nG.out.1).mono ?_;rintro e w6 ⟨rfl,p6,g6⟩;have Fe:=jB (jg p6 (nG.out.2.trans g6));clear p6 g6 nG HI2 Fa;go_wp2_with fail;refine(Fb.out _ Fe.out.1).mono ?_;rintro e w7 ⟨ub,rfl,e7,p7,g7⟩;obtain⟨T2,A2,hv2,hm2,b1,b2,b3⟩:=zk.out.2.1.rP e7;subst hv2;have AZ:=jB (jg e7 (jg p7 g7));clear e7 p7 g7 Fb b1 b2 b3;go_upto_region 16 with fail;have hgb:(w7.alloc (.cells #[.string dt,Im da,.iface T2 (Pt A2 0)] 361)).heap[w7.heap.size]? =some (.cells #[.string dt,Im da,.iface T2 (Pt A2 0)] 361):=aY _ _;have hgW:w7.grownBy (w7.alloc (.cells #[.string dt,Im da,.iface T2 (Pt A2 0)] 361)) none:=ah _ _ none;have akK:w7.heap.size+1<=(w7.alloc (.cells #[.string dt,Im da,.iface T2 (Pt A2 0)] 361)).heap.size:=by rw[nU];exact aj _
     generalize hW:w7.alloc (.cells #[.string dt,Im da,.iface T2 (Pt A2 0)] 361)=W at *;clear hW;have hx:=HI.out.zZ;have rM:=HI.out.heap.keep hx hlt (Fe.out.2.trans (AZ.out.2.2.trans (hgW.but _)));obtain⟨fa,fc,hfv⟩:=Wx rM.own;subst hfv;have hlen:x.jF.length<=100000:=by have:=HI.out.len;omega
     have hm7:m<=w6.heap.size:=dH HI.out.heap.EC Fe.out.2.size;have h67:=AZ.out.2.2.size;have hW7:=hgW.size;have hbe:be.here be.at' W w6.heap.size w7.heap.size (.iface T2 (Pt A2 0)):=(zk.out.2.1.law _).loc _ _ _ _ _ AZ.out.1 (λb _ hb=>hgW.block b hb (by simp));have c4:W.cell? (Ad S 4)=some (.slice fa x.jF.length fc):=jH rM.set;have hSW:=lN rM.set;have k0:W.cell? (Ad w7.heap.size 0)=some (.string dt):=jH hgb;have k1:W.cell? (Ad w7.heap.size 1)=some (Im da):=jH hgb;have k2:W.cell? (Ad w7.heap.size 2)=some (.iface T2 (Pt A2 0)):=jH hgb;have hbw:=lN hgb;obtain⟨i0,hi0,hz0,hz1,hz2⟩:=info_parts ab3;have HO:Hid (∀(o:Obj)(n:Nat),((W.alloc o).drewN n).ownsRow (S+1) 361 3 (.slice fa x.jF.length fc) x.jF.length (wS x.jF us)):=λo n=>
      (rM.own.alloc o).kept (w':=(W.alloc o).drewN n) (row:=none) ⟨rfl,rfl,rfl,aj _,λ_ _ _=>rfl⟩ (by cases (Value.slice fa x.jF.length fc).ownBlock<;>simp)
     have Y8:Hid (jR W P s q2):=AZ.out.2.1.grow hgW;have HQ:Hid (∀(o:Obj)(n:Nat)(w1:jo)(gg cap:Nat),((W.alloc o).drewN n).grownBy w1 (Value.slice fa x.jF.length fc).ownBlock->w1.ownsRow (S+1) 361 3 (.slice (some (Ad gg 0)) (x.jF.length+1) cap) (x.jF.length+1) (wS x.jF us++[.string dt,Im da,.iface T2 (Pt A2 0)])->((Value.slice fa x.jF.length fc).ownBlock=some gg\/gg=W.heap.size+1)->gg<w1.heap.size->
      (∃CW us' m',rV P w (w1.setCell (Ad S 4) (.slice (some (Ad gg 0)) (x.jF.length+1) cap)) S CW gg {x with jF:=x.jF++[(⟨dt,da⟩,be)]} us' m')/\jR (w1.setCell (Ad S 4) (.slice (some (Ad gg 0)) (x.jF.length+1) cap)) P s q2/\
      (w1.setCell (Ad S 4) (.slice (some (Ad gg 0)) (x.jF.length+1) cap)).heap[w7.heap.size]? =some (.cells #[.string dt,Im da,.iface T2 (Pt A2 0)] 361)/\
      (w1.setCell (Ad S 4) (.slice (some (Ad gg 0)) (x.jF.length+1) cap)).cell? (Ad A2 1)=some (Im be.jy)/\(∃u,w1.cell? (Ad S 4)=some u)/\w1.frozen? (Ad S 4)=false):=by
      intro o n w1 gg cap hgr hown hat hlt2;have BG:W.grownBy ((W.alloc o).drewN n) none:=(ah W o none).trans (lH _ n);obtain⟨n1,n2⟩:=rM.oV BG hgr;have hadd:=rM.add (d:=⟨dt,da⟩) hx zk.out.2.1 BG hgr hown (hat.elim ji λe=>jh (by omega)) hlt2 hbe hm7 h67 (by omega);have hS1:w1.heap[S]? =some (.cells #[Im x.at',Im x.jy,.string x.base,Im x.of,.slice fa x.jF.length fc] 348):=(n1 S hSW (jh (jh (aj _)))).trans rM.set;have Po:=rM.Gg;have asB:=rM.Gq;obtain⟨T3,A3,hv3,_,b1,b2,b3⟩:=zk.out.2.1.rP hbe;cases hv3;have hbx:(w1.setCell (Ad S 4) (.slice (some (Ad gg 0)) (x.jF.length+1) cap)).heap[w7.heap.size]? =some (.cells #[.string dt,Im da,.iface T2 (Pt A2 0)] 361):=by
       rw[bC _ _ _ _ (by simp only;omega),n1 _ hbw (jh (ji (by omega)))];exact hgb
      have hA:(w1.setCell (Ad S 4) (.slice (some (Ad gg 0)) (x.jF.length+1) cap)).heap[A2]? =W.heap[A2]? :=by
       rw[bC _ _ _ _ (by simp only;omega),n1 _ (by omega) (jh (ji (by omega)))]
      refine⟨⟨_,_,_,hadd⟩,?_,hbx,(bQ hA).trans b3,⟨_,jH hS1⟩,oh hS1⟩;refine jR.Dx ?_ (by omega) _ _;have hP1:w1.heap[P]? =W.heap[P]? :=n1 P (by omega) (jh (jh (by omega)));exact aoO Y8.out hP1
     have hmx:x.jF.length+1<=maxLen:=by unfold maxLen;omega
     have hby:(x.jF.length+1) * 40<=140737488355328:=by omega
     have nS:¬S=W.heap.size:=by omega
     clear rM hbe hgb hgW;generalize wS x.jF us=cells at *;generalize x.jF.length=len at *;go_cut [] (λwz=>Hid (∃gg CW us' m',rV P w wz S CW gg {x with jF:=x.jF++[(⟨dt,da⟩,be)]} us' m'/\jR wz P s q2/\wz.heap[w7.heap.size]? =some (.cells #[.string dt,Im da,.iface T2 (Pt A2 0)] 361)/\wz.cell? (Ad A2 1)=some (Im be.jy)))
     case first=>
      go_region_law ((refine step_append_lies _ (by rfl) _ _ _ (by rfl) (S+1) 361 i0 _ 3 40 Tryz.underlying346 hi0 hz0 hz1 hz2 (by rfl) (by omega) (.slice fa len fc) len cells (by rfl) (HO.out _ 1) (Ad W.heap.size 0) 1 1 [.string dt,Im da,.iface T2 (Pt A2 0)] (by rfl) (by rfl) (fM (cs:=#[.string dt,Im da,.iface T2 (Pt A2 0)]) (t:=361) (fr:=(0,0)) (aY W _)) (by simp[Value.oneCell']) (by omega) hmx hby (by simp;omega) (W.heap.size+1) (by simp) ?_;intro gg cap1 w3 hown1 hgrow hat hlt3;obtain⟨u12,UL⟩:=(HQ.out _ 1 _ _ _ hgrow hown1 hat hlt3).2.2.2.2.1;have Ux:=(HQ.out _ 1 _ _ _ hgrow hown1 hat hlt3).2.2.2.2.2));all_goals (go_wp2_with fail;go_meet;obtain⟨⟨a1,a2,a3,a4⟩,a5,a6,a7,_⟩:=HQ.out _ 1 _ _ _ hgrow hown1 hat hlt3;exact⟨_,a1,a2,a3,a4,a5,a6,a7⟩)
     case rest=>
      obtain⟨gg,CW,us',m',rM,hPs,hbx,hAc⟩:=hcut.out;clear hcut HQ HO c4 k0 k1 k2 hmx hby nS hz0 hz1 hz2 hi0 hSW hW7 hbw akK;have hxa:oU {x with jF:=x.jF++[(⟨dt,da⟩,be)]}:=⟨hx.jy,hx.of,λb hb=>by
       rcases List.mem_append.1 hb with hb|hb
       .exact hx.all b hb
       .rw[cO.1 hb];exact zk.out.2.1⟩
      have hSW:=lN rM.set;have c1:wc.cell? (Ad S 1)=some (Im x.jy):=jH rM.set;have c3:wc.cell? (Ad S 3)=some (Im x.of):=jH rM.set;have fz:∀j,wc.frozen? (Ad S j)=false:=λj=>oh rM.set;have hbw:=lN hbx;have k2:wc.cell? (Ad w7.heap.size 2)=some (.iface T2 (Pt A2 0)):=jH hbx;have O3:Hid (∀y,wc.grownBy y none->y.cell? (Ad S 3)=some (Im x.of)):=λy hy=>hy.cell c3 (by simp);have OA:Hid (∀y,wc.grownBy y none->y.cell? (Ad A2 1)=some (Im be.jy)):=λy hy=>hy.cell hAc (by simp);have hcb:=hx.jy;have hbb:=zk.out.2.1.jy;have hrb:=uf (x:=x) hbb;have wM:Hid (∀y,(wc.setCell (Ad S 1) (Im (lg [x.jy,x.round be.jy]))).grownBy y none->SQ s ex d R P w S y g' CW gg (x.add (⟨dt,da⟩,be)) us' q2 m'):=λy hy=>by
       have h0:=rM.jy hxa hlt (aN _ _) (lg [x.jy,x.round be.jy]);have h1:rV P w y S CW gg (x.add (⟨dt,da⟩,be)) us' m':=rV.keep h0 (hx.add zk.out.2.1) hlt (hy.but _);have hS1:=rM.Gq;have hl:=HI.out.len;have hfu:=YU.out;have hmo:=zk.out.2.2;refine⟨h1,kG.grow (jR.Dx hPs (by omega) _ _) hy,zk.out.1.ok,HI.out.deep.good zk.out.1,hx.add zk.out.2.1,by omega,?_,HE2.out⟩;show(x.jF++[((⟨dt,da⟩:Wd),be)]).length+g'<=100000;simp only[aA,aF,bg];omega
      obtain⟨o1,o2,hro⟩:∃o1 o2:Obj,∀y:jo,y.cell? (Ad S 3)=some (Im x.of)->Calls prog 245 #[Pt S 0,Im be.jy] y λe w'=>e=.returned (Im (x.round be.jy))/\w'=(y.alloc o1).alloc o2:=⟨_,_,λy hy=>QN (x:=x) (S:=S) hy be.jy hbb⟩;have DX:Hid (∀y:jo,wc.grownBy y none->Calls prog 245 #[Pt S 0,Im be.jy] y λe w'=>e=.returned (Im (x.round be.jy))/\w'=(y.alloc o1).alloc o2):=λy hy=>hro y (O3.out y hy);clear hro O3 rM hPs hbx hAc HE2 YU HI Ky Fe AZ Y8 zk hxa hx;generalize x.round be.jy=rc at *;generalize be.jy=bc at *;generalize hxc:x.jy=xc at *;clear hxc;have pS1:S<wc.heap.size+1:=by omega
      have pS2:S<wc.heap.size+1+1:=by omega
      have pS3:S<wc.heap.size+1+1+1:=by omega
      have rS2:S<wc.heap.size+2:=by omega
      have rS3:S<wc.heap.size+3:=by omega
      have nS1:¬S=wc.heap.size:=by omega
      go_wp2_with fail;go_region_with (first
       |(go_at_call 244;refine(tX A2 0 bc (OA.out _ (by repeat (first|exact aN _ _|refine Em ?_|refine CY ?_|refine Jo ?_)))).mono ?_;rintro e w' ⟨rfl,rfl⟩)
       |(go_at_call 245;refine(DX.out _ (by repeat (first|exact aN _ _|refine Em ?_|refine CY ?_|refine Jo ?_))).mono ?_;rintro e w' ⟨rfl,rfl⟩)
       |(go_at_call 143;refine(NU (agi xc rc hcb hrb (jH (a:=#[Im xc,Im rc]) (T:=3) (by repeat (first|(with_reducible refine LZ ?_;simp only[nU];done)|with_reducible refine LY ?_|with_reducible refine LX ?_))) (jH (a:=#[Im xc,Im rc]) (T:=3) (by repeat (first|(with_reducible refine LZ ?_;simp only[nU];done)|with_reducible refine LY ?_|with_reducible refine LX ?_))))).mono ?_;rintro e w' ⟨rfl,rfl⟩))
      all_goals (go_wp2_with fail;go_roundg g')
      all_goals (first|(show _<_;omega)|exact⟨_,_,_,_,_,_,wM.out _ (CY (Em (Em (Em (aN _ _)))))⟩)
theorem aqi(hof:setOf p.k.text.data.toList=none):yK s p ((⟨p.k.at',1,p.k.text,4,[]⟩,false),p.fail):=by
 intro P w hp;have hlt:=hp.lt;have e2:∀x:Ext w,x.val.cell? (Ad P 2)=some (.string p.k.text):=λx=>(kG.grow hp x.grown).c2;have e3:∀x:Ext w,x.val.cell? (Ad P 3)=some (Im p.k.at'):=λx=>(kG.grow hp x.grown).c3;have hne:=OU w;have HW:=jB (λw' (hg:w.grownBy w' none)=>kG.grow hp hg);have HX:Hid (∀x:Ext w,Calls prog 234 #[Im p.k.at',Nl] x.val λe w''=>e=.returned (.agg #[Im p.k.at',Im 1])/\∃y:Ext w,w''=y.val):=λx=>aaR _ x;have hor:(p.k.text.toList==[82,79,65,68,83])=false/\(p.k.text.toList==[70,82,69,83,72])=false/\(p.k.text.toList==[65,71,65,73,78])=false:=by
  rw[aZ];unfold setOf at hof;generalize p.k.text.data.toList=tl at *;cases h1:(tl==[82,79,65,68,83])with
  |true=>rw[h1]at hof;simp at hof
  |false=>
   rw[h1]at hof;cases h2:(tl==[70,82,69,83,72])with
   |true=>rw[h2]at hof;simp at hof
   |false=>
    cases h3:(tl==[65,71,65,73,78])with
    |true=>rw[h2,h3]at hof;simp at hof
    |false=>exact⟨rfl,rfl,rfl⟩
 obtain⟨t1,t2,t3⟩:=hor;have Kw:=jB (λx (hx:jR x P s p)=>Ef hx);have nR:Hid (∀y w2 S,w.heap.size<=S->w.grownBy y (some P)->y.heap[S]? =some (.cells #[Im p.k.at',Im 1,.string p.k.text,Im 4,Nl] 348)->y.grownBy w2 (some P)->oN ⟨p.k.at',1,p.k.text,4,[]⟩ w2 w.heap.size w2.heap.size (Pt S 0)/\w.grownBy w2 (some P)):=λy w2 S h1 h2 h3 h4=>by
  have h0:rV P w y S (Nl) 0 ⟨p.k.at',1,p.k.text,4,[]⟩ [] (S+1):=rV.start h3 rfl h1 h2;have h5:=h0.keep ⟨by simp,jh rfl,by simp⟩ hlt h4;exact⟨h5.out,h5.grown⟩
 generalize p.fail=q at *;clear hp hof;go_enter func243,ntmps243;go_wp2_with fail;refine RN 12 (by kernel_rfl) (by kernel_rfl) ?_;simp only[aC,aO,aG,aQ];repeat (go_big_quiet_step ((go_at_call 234;exact HX.out _)))
 refine bF ?_;intro wx hg;have f2:=kG.c2 (HW.out wx hg);have hPx:=kG.lt (HW.out wx hg);have n1:¬P=wx.heap.size:=by omega
 have HY:Hid (∀o,jR (wx.alloc o) P s p/\(wx.alloc o).heap[wx.heap.size]? =some o/\w.grownBy (wx.alloc o) (some P)):=λo=>⟨kG.grow (HW.out wx hg) (ah _ _ none),aY _ _,(hg.trans (ah _ _ none)).but _⟩;have HSz:=jB hg.size;clear e2 e3 hg HX;go_wp2_with fail;refine(Kw.out _ (HY.out _).1).mono ?_;rintro e w2 ⟨rfl,p2,g2⟩;have HE:Hid (oN ⟨p.k.at',1,p.k.text,4,[]⟩ w2 w.heap.size w2.heap.size (Pt wx.heap.size 0)/\jR w2 P s q/\w.grownBy w2 (some P)):=by
  obtain⟨a1,a2⟩:=nR.out _ w2 _ HSz.out (HY.out _).2.2 (HY.out _).2.1 g2;exact⟨a1,p2,a2⟩
 clear p2 g2;go_wp2_with fail;go_ret2;exact⟨_,rfl,HE.out⟩
theorem aqk(hs:s.size<=4000)(h:Reader s ex d)(ok:p.Ok s)(hd:Deep (d+1) p):yK s p (mZ s ex (s.size+1) p):=by
 unfold mZ;split
 .rename_i of hof;exact aqj hs h ok hd of hof
 .rename_i hof;exact aqi hof
theorem aql(hs:s.size<=4000):SV s:=⟨λ_ _ h _ ok hd=>aqk hs h ok hd,λ_ _ h _ _ k ok hd hb hx=>am7 hs h ok hd hb hx k⟩
end
section
variable {w:jo}{s:jm}
def mY(s:jm):List jK×Int×Int:=if 4000<s.size then ([],1,0)else uI (oH s 21 (vT s))
theorem aou(h:4000<s.size):Calls prog 88 #[.string s] w λe w'=>e=.returned (.tuple #[Nl,.agg #[Im 1,Im 0]])/\w.grownBy w' none:=by
 have d1:decide ((4000:Int)<(s.size:Int))=true:=by simp;omega
 go_enter func88,ntmps88;go_wp2_with fail;refine cu (QG _ _ w.heap.size _ 1 0 rfl rfl ?_) rfl ⟨rfl,?_⟩
 .exact aY _ _
 .exact ah _ _ none
theorem aov(hs:s.size<=4000):Calls prog 88 #[.string s] w λe w'=>∃v,e=.returned (.tuple #[v,.agg #[Im (uI (oH s 21 (vT s))).2.1,Im (uI (oH s 21 (vT s))).2.2]])/\mO (uI (oH s 21 (vT s))).1 w' w.heap.size w'.heap.size v/\w.grownBy w' none:=by
 have d1:decide ((4000:Int)<(s.size:Int))=false:=by simp;omega
 have HS:=jB (λw=>aeY s 0 w hs (by omega));have HQ:=jB (λP x (h:kG x P s (Hx.scan s 0) 0 0 0)=>afI hs (aql hs) 21 (vT s) (QI s) (aer s) P x h);have HL:=jB ((Rt s 21 (vT s) (QI s) (aer s)).2);generalize oH s 21 (vT s)=R at *;obtain⟨L,q⟩:=R;simp only at HQ HL;generalize Hx.scan s 0=k at *;go_enter func88,ntmps88;go_wp2_with fail;refine(HS.out _).mono ?_;rintro e w1 ⟨rfl,g1⟩;have hf1:=(g1.block _ (by simp) (by simp)).trans (aY w _);have qx:=jB (jg ((ah w _ none).trans g1) hf1);clear g1 hf1 HS;have HP:Hid (∀o,o=Obj.cells #[.string s,Im k.kind,.string k.text,Im k.at',Im 0,Im 0,Im 0] 252->kG (w1.alloc o) w1.heap.size s k 0 0 0):=by
  intro o ho;have hh:(w1.alloc o).heap[w1.heap.size]? =some (.cells #[.string s,Im k.kind,.string k.text,Im k.at',Im 0,Im 0,Im 0] 252):=by rw[<-ho];exact aY w1 o
  exact⟨jH hh,jH hh,jH hh,jH hh,jH hh,jH hh,jH hh,λj=>oh hh⟩
 unfold xu;go_wp2_with fail;refine(HQ.out _ _ (HP.out _ rfl)).mono ?_;rintro e w2 ⟨v,rfl,e2,p2,g2⟩;have s1:=qx.out.1.size;have hlt:=lN qx.out.2;have hgf:w.grownBy w2 none:=by
  have h1:=qx.out.1.trans (ah w1 (Obj.cells #[.string s,Im k.kind,.string k.text,Im k.at',Im 0,Im 0,Im 0] 252) none);exact h1.andThen g2 (λj e=>by cases e;exact ji s1)
 have hf2:=(g2.block _ (by simp;omega) (by simp;omega)).trans (((ah w1 _ none).block _ (by omega) (by simp)).trans qx.out.2);have hl2:mO L w2 (w1.heap.size+1) w2.heap.size v:=by rw[nU]at e2;exact e2
 have asD:w1.heap.size<w2.heap.size:=by have:=g2.size;rw[nU]at this;omega
 have HM:Hid (∀w3,w2.grownBy w3 (some w1.heap.size)->w3.heap[w.heap.size]? =some (.cells #[Im 0,Im 0] 107)/\w.grownBy w3 none/\∀a b,mO L ((w3.setCell (Ad w.heap.size 0) a).setCell (Ad w.heap.size 1) b) w.heap.size w3.heap.size v):=λw3 h3=>by
  refine⟨(h3.block _ (lN hf2) (by simp;omega)).trans hf2,hgf.andThen h3 (λj e=>by cases e;exact ji s1),λa b=>?_⟩;refine(uz HL.out).wide _ _ _ _ _ _ ((uz HL.out).loc _ _ _ _ _ hl2 (λj hj1 hj2=>?_)) (by omega) h3.size;rw[bC _ _ _ _ (by simp only;omega),bC _ _ _ _ (by simp only;omega)];exact h3.block j hj2 (by simp;omega)
 have HP2:=jB p2;have Kw:=jB (Ef p2);have c1:=kG.c1 p2;clear e2 p2 g2 hf2 hgf HP HQ qx hl2;generalize w1.heap.size=P at *;by_cases hk:q.k.kind=1
 .rw[hk]at c1;have hq:yS q=q:=by unfold yS;rw[jl hk]
  have c5:=kG.c5 HP2.out;have c6:=kG.c6 HP2.out;obtain⟨f1,f2,f3⟩:=HM.out w2 (aN _ _);have r0:=jJ 0 f1 rfl;have r1:=jJ 1 f1 rfl;have rf:=qJ f1;have HR:=jB (jg f1 (jg f2 f3));clear f1 f2 f3 Kw;by_cases he:q.en=0
  .have KF:Hid (uI (L,q)=(L,0,0)):=by
    have h0:uI (L,q)=(L,0,0):=by unfold uI;simp only[hq,jl he]
    exact h0
   rw[he]at c5;clear hq hk he;go_wp2_with fail;have z2:=Dw w2 w.heap.size _ _ _ (Im 0) (Im 0) HR.out.1;refine cu (QG _ _ w.heap.size _ 0 0 rfl rfl z2) rfl ?_;rw[KF.out];refine⟨_,rfl,?_,pG (pG HR.out.2.1 (aj _) _ _) (aj _) _ _⟩;have hsz:((w2.setCell (Ad w.heap.size 0) (Im 0)).setCell (Ad w.heap.size 1) (Im 0)).heap.size=w2.heap.size:=by simp[World.setCell]
   rw[hsz];exact HR.out.2.2 _ _
  .have KF:Hid (uI (L,q)=([],q.en,q.ea)):=by
    have h0:uI (L,q)=([],q.en,q.ea):=by unfold uI;simp only[hq,jk he]
    exact h0
   have hb:(q.en !=0)=true:=by simp[he]
   clear hq hk;go_wp2_with fail;refine nJ 5 (by kernel_rfl) (by kernel_rfl) ?_;simp only[aC,aO,aG,aQ];repeat (go_big_quiet_step (fail))
   refine bF ?_;intro _ hw';obtain⟨n3,hw''⟩:=hw';subst hw'';go_wp2_with fail;have z2:=Dw w2 w.heap.size _ _ _ (Im q.en) (Im q.ea) HR.out.1;refine cu (QG _ _ w.heap.size _ q.en q.ea rfl rfl z2) rfl ?_;rw[KF.out];exact⟨_,rfl,ji ⟨rfl,rfl⟩,(pG (pG HR.out.2.1 (aj _) _ _) (aj _) _ _).trans (lH _ _)⟩
 .have hq:yS q=q.fail:=by unfold yS;rw[jk hk]
  have he:¬q.fail.en=0:=by unfold Ps.fail;simp only;split<;>omega
  have KF:Hid (uI (L,q)=([],q.fail.en,q.fail.ea)):=by
   have h0:uI (L,q)=([],q.fail.en,q.fail.ea):=by unfold uI;simp only[hq,jk he]
   exact h0
  have hb:(q.fail.en !=0)=true:=by simp[he]
  have hb1:(q.k.kind !=1)=true:=by simp[hk]
  clear hq hk;go_wp2_with fail;refine Kw.out.mono ?_;rintro e w3 ⟨rfl,p3,g3⟩;have c5:=kG.c5 p3;have c6:=kG.c6 p3;obtain⟨f1,f2,f3⟩:=HM.out w3 g3;have r0:=jJ 0 f1 rfl;have r1:=jJ 1 f1 rfl;have rf:=qJ f1;have HR:=jB (jg f1 f2);clear f1 f2 f3 Kw p3 g3;go_wp2_with fail;refine nJ 5 (by kernel_rfl) (by kernel_rfl) ?_;simp only[aC,aO,aG,aQ];repeat (go_big_quiet_step (fail))
  refine bF ?_;intro _ hw';obtain⟨n3,hw''⟩:=hw';subst hw'';go_wp2_with fail;have z2:=Dw w3 w.heap.size _ _ _ (Im q.fail.en) (Im q.fail.ea) HR.out.1;refine cu (QG _ _ w.heap.size _ q.fail.en q.fail.ea rfl rfl z2) rfl ?_;rw[KF.out];exact⟨_,rfl,ji ⟨rfl,rfl⟩,(pG (pG HR.out.2 (aj _) _ _) (aj _) _ _).trans (lH _ _)⟩
theorem aot(s:jm)(w:jo):Calls prog 88 #[.string s] w λe w'=>∃v,e=.returned (.tuple #[v,.agg #[Im (mY s).2.1,Im (mY s).2.2]])/\mO (mY s).1 w' w.heap.size w'.heap.size v/\w.grownBy w' none:=by
 unfold mY;split
 .rename_i h;refine(aou h).mono ?_;rintro e w' ⟨rfl,hg⟩;exact⟨_,rfl,ji ⟨rfl,rfl⟩,hg⟩
 .exact aov (by omega)
theorem VG(d:Nat):zq d []:=acH (by simp) (by simp)
theorem aqY(hs:s.size<=4000)(d:Nat)(p:Ps):zq d (oH s d p).1:=
 Rq s l7 zU zq (ajv s hs) (λd=>amy (s.size+1) (by omega) d) VG (λ_ _ hl h=>acH h (by omega)) d p
def lV(s:jm):List jK×Int×Int:=
 if (mY s).2.1≠0 then ([],(mY s).2.1,(mY s).2.2)
 else if (qC (mY s).1 ⟨[],0,0⟩).en≠0 then ([],(qC (mY s).1 ⟨[],0,0⟩).en,(qC (mY s).1 ⟨[],0,0⟩).ea)
 else if 1000000<kN (mY s).1 then ([],4,0)else ((mY s).1,0,0)
theorem aox(s:jm):zq 21 (mY s).1/\(mY s).1.length<=5000:=by
 unfold mY;split
 .exact⟨VG _,by simp⟩
 .have hs:s.size<=4000:=by omega
  unfold uI;split
  .exact⟨aqY hs 21 _,by have:=afH s 21 (vT s);show(oH s 21 (vT s)).1.length<=5000;omega⟩
  .exact⟨VG _,by simp⟩
theorem OC(tmps:Array jr)(w:jo)(g:Nat)(v:jr)(a b:Int)(h2:tmps[2]? =some v)(h3:tmps[3]? =some (Pt g 0))(h:w.heap[g]? =some (.cells #[Im a,Im b] 107)):
 (results Tryz.f44 tmps).run prog w=.ok (.tuple #[v,.agg #[Im a,Im b]]) w:=by
 have q0:=jJ 0 h rfl;have q1:=jJ 1 h rfl;simp[results,Tryz.results44,go_sem,h2,h3,q0,q1]
theorem aac(s:jm)(w:jo):Calls prog 44 #[.string s] w λe w'=>∃v,e=.returned (.tuple #[v,.agg #[Im (lV s).2.1,Im (lV s).2.2]])/\mO (lV s).1 w' w.heap.size w'.heap.size v/\w.grownBy w' none:=by
 have HP:=jB (λy=>aot s y);obtain⟨hL,hlen⟩:=aox s;have HD:Hid (lV s=if (mY s).2.1≠0 then ([],(mY s).2.1,(mY s).2.2)
  else if (qC (mY s).1 ⟨[],0,0⟩).en≠0 then ([],(qC (mY s).1 ⟨[],0,0⟩).en,(qC (mY s).1 ⟨[],0,0⟩).ea)
  else if 1000000<kN (mY s).1 then ([],4,0)else ((mY s).1,0,0)):=rfl
 have HL:=jB (jg hL hlen);clear hL hlen;generalize lV s=R at *;generalize mY s=P at *;obtain⟨L,en,ea⟩:=P;simp only at HP HL HD;go_enter func44,ntmps44;go_wp2_with fail;refine(HP.out _).mono ?_;rintro e w1 ⟨v,rfl,h1,g1⟩;rw[nU]at h1;have s1:=g1.size;rw[nU]at s1;have hf1:=(g1.block _ (by simp) (by simp)).trans (aY w _);have qx:=jB (jg ((ah w _ none).trans g1) (jg hf1 h1));have r0:=jJ 0 hf1 rfl;have r1:=jJ 1 hf1 rfl;have rf:=qJ hf1;have hlt:=lN hf1;have n1:¬w.heap.size=w1.heap.size:=by omega
 clear g1 hf1 h1 HP;by_cases he:en=0
 .subst he;have hvf:=Jz qx.out.2.2;obtain⟨va,vn,vc,rfl⟩:=hvf;have hB:Calls prog 89 #[Pt (w1.heap.size+1) 0,.slice va vn vc] ((w1.alloc (.cells #[Im 0,Im ea] 107)).alloc (.cells #[Nl,Im 0,Im 0] 188)) λen w'=>en=.returned (.tuple #[])/\mO L w' (w.heap.size+1) w1.heap.size (.slice va vn vc)/\kX w' (w1.heap.size+1) (qC L ⟨[],0,0⟩)/\Lk ((w1.alloc (.cells #[Im 0,Im ea] 107)).alloc (.cells #[Nl,Im 0,Im 0] 188)) w' (w.heap.size+1) w1.heap.size (w1.heap.size+1):=by
   have hgg:w1.grownBy ((w1.alloc (.cells #[Im 0,Im ea] 107)).alloc (.cells #[Nl,Im 0,Im 0] 188)) none:=(ah w1 _ none).trans (ah _ _ none);have hl2:=HL.out.1.law.loc _ _ _ _ _ qx.out.2.2 (λb _ hb=>hgg.block b hb (by simp));exact HL.out.1.look _ _ _ _ _ ⟨[],0,0⟩ hl2 (by omega) ⟨Nl,Uu w1 _ _,fK _ _ _ _⟩ (by simp)
  have HB:Hid (Calls prog 89 #[Pt (w1.heap.size+1) 0,.slice va vn vc] ((w1.alloc (.cells #[Im 0,Im ea] 107)).alloc (.cells #[Nl,Im 0,Im 0] 188)) λen w'=>en=.returned (.tuple #[])/\mO L w' (w.heap.size+1) w1.heap.size (.slice va vn vc)/\kX w' (w1.heap.size+1) (qC L ⟨[],0,0⟩)/\w'.heap[w.heap.size]? =some (.cells #[Im 0,Im 0] 107)/\w.grownBy w' none/\w1.heap.size+1<w'.heap.size):=hB.mono λen w' ⟨q1,q2,q3,q4⟩=>by
   have hgg:w1.grownBy ((w1.alloc (.cells #[Im 0,Im ea] 107)).alloc (.cells #[Nl,Im 0,Im 0] 188)) none:=(ah w1 _ none).trans (ah _ _ none);have hg2:=qx.out.1.trans hgg;refine⟨q1,q2,q3,?_,⟨q4.os.trans hg2.os,q4.tape.trans hg2.tape,q4.output.trans hg2.output,dH hg2.size q4.size,λk hk _=>(q4.keep k (by omega) (ji (by omega))).trans (hg2.block k hk (by simp))⟩,q3.lt⟩;exact(q4.keep _ (by omega) (ji (by omega))).trans ((hgg.block _ hlt (by simp)).trans qx.out.2.1)
  clear hB;go_wp2_with fail;refine HB.out.mono ?_;rintro e w2 ⟨rfl,q1,⟨nv,q2⟩,q3,q4,q5⟩;have HQ:=jB (jg q1 (jg q3 q4));have Fh:=jB (IG HL.out.1.ok (by have:=HL.out.2;omega) (Ip HL.out.1.ok q1));have y1:=jJ 1 q2.jL rfl;have y2:=jJ 2 q2.jL rfl;have z0:=jJ 0 q3 rfl;have z1:=jJ 1 q3 rfl;have zf:=qJ q3;clear q1 q2 q3 q4 HB r0 r1 rf;generalize hcc:qC L ⟨[],0,0⟩=cc at *;obtain⟨cn,ce,ca⟩:=cc;simp only at y1 y2 HD;by_cases hce:ce=0
  .subst hce;by_cases hsum:1000000<kN L
   .have HD2:Hid (R=([],4,0)):=by have h0:=HD.out;simp only[ne_eq,not_true_eq_false,cZ,jl hsum]at h0;exact h0
    have d1:decide ((1000000:Int)<kN L)=true:=by simpa using hsum
    clear HD;go_wp2_with fail;refine Fh.out.mono ?_;rintro e w3 ⟨rfl,g3⟩;have hf3:=(g3.block _ (lN HQ.out.2.1) (by simp)).trans HQ.out.2.1;have a0:=jJ 0 hf3 rfl;have a1:=jJ 1 hf3 rfl;have af:=qJ hf3;have Cm:=jB (jg hf3 (HQ.out.2.2.trans g3));clear g3 hf3;go_wp2_with fail;have z2:=Dw w3 w.heap.size _ _ _ (Im 4) (Im 0) Cm.out.1;refine cu (OC _ _ w.heap.size _ 4 0 rfl rfl z2) rfl ?_;rw[HD2.out];exact⟨_,rfl,ji ⟨rfl,rfl⟩,pG (pG Cm.out.2 (aj _) _ _) (aj _) _ _⟩
   .have HD2:Hid (R=(L,0,0)):=by have h0:=HD.out;simp only[ne_eq,not_true_eq_false,cZ,jk hsum]at h0;exact h0
    have d1:decide ((1000000:Int)<kN L)=false:=by simpa using hsum
    clear HD;go_wp2_with fail;refine Fh.out.mono ?_;rintro e w3 ⟨rfl,g3⟩;have hf3:=(g3.block _ (lN HQ.out.2.1) (by simp)).trans HQ.out.2.1;have a0:=jJ 0 hf3 rfl;have a1:=jJ 1 hf3 rfl;have af:=qJ hf3;have Cm:=jB (jg hf3 (jg (HQ.out.2.2.trans g3) g3));clear g3 hf3;go_wp2_with fail;have z2:=Dw w3 w.heap.size _ _ _ (Im 0) (Im 0) Cm.out.1;refine cu (OC _ _ w.heap.size _ 0 0 rfl rfl z2) rfl ?_;rw[HD2.out];refine⟨_,rfl,?_,pG (pG Cm.out.2.1 (aj _) _ _) (aj _) _ _⟩;have hsz:((w3.setCell (Ad w.heap.size 0) (Im 0)).setCell (Ad w.heap.size 1) (Im 0)).heap.size=w3.heap.size:=by simp[World.setCell]
    rw[hsz];have s3:=Cm.out.2.2.size;refine HL.out.1.law.wide _ _ _ _ _ _ (HL.out.1.law.loc _ _ _ _ _ HQ.out.1 (λj hj1 hj2=>?_)) (by omega) (by omega);rw[bC _ _ _ _ (by simp only;omega),bC _ _ _ _ (by simp only;omega)];exact Cm.out.2.2.block j (by omega) (by simp)
  .have HD2:Hid (R=([],ce,ca)):=by have h0:=HD.out;simp only[ne_eq,not_true_eq_false,cZ,hce,not_false_eq_true,dM]at h0;exact h0
   have hb:(ce !=0)=true:=by simp[hce]
   clear HD;go_wp2_with fail;refine nJ 3 (by kernel_rfl) (by kernel_rfl) ?_;simp only[aC,aO,aG,aQ];repeat (go_big_quiet_step (fail))
   refine bF ?_;intro _ hw';obtain⟨n3,hw''⟩:=hw';subst hw'';go_wp2_with fail;have z2:=Dw w2 w.heap.size _ _ _ (Im ce) (Im ca) HQ.out.2.1;refine cu (OC _ _ w.heap.size _ ce ca rfl rfl z2) rfl ?_;rw[HD2.out];exact⟨_,rfl,ji ⟨rfl,rfl⟩,(pG (pG HQ.out.2.2 (aj _) _ _) (aj _) _ _).trans (lH _ _)⟩
 .have hb:(en !=0)=true:=by simp[he]
  have HD2:Hid (R=([],en,ea)):=by have h0:=HD.out;rw[jl he]at h0;exact h0
  clear HD;go_wp2_with fail;refine nJ 2 (by kernel_rfl) (by kernel_rfl) ?_;simp only[aC,aO,aG,aQ];repeat (go_big_quiet_step (fail))
  refine bF ?_;intro _ hw';obtain⟨n3,hw''⟩:=hw';subst hw'';go_wp2_with fail;have z2:=Dw w1 w.heap.size _ _ _ (Im en) (Im ea) qx.out.2.1;refine cu (OC _ _ w.heap.size _ en ea rfl rfl ((fP _ _ _ (lN z2)).trans z2)) rfl ?_;rw[HD2.out];exact⟨_,rfl,ji ⟨rfl,rfl⟩,(pG (pG qx.out.1 (aj _) _ _) (aj _) _ _).trans ((ah _ _ none).trans (lH _ _))⟩
end
section
variable {w:jo}{C:Nat}{c:Co}{l:List jK}{v nv:jr}
def vC:Co:=⟨[],[],8⟩
def xE(l:List jK):List Int:=((kU l vC).lay 0 []).code
theorem aiV(w:jo):kF (w.alloc (.cells #[Nl,Nl,Im 8] 197)) w.heap.size vC:=
 ⟨Nl,Nl,aY w _,fK _ _ _ _,fK _ _ _ _,λg e=>by cases e⟩
theorem o9.bytes(h:o9 w C v nv c)(hne:c.code≠[]):∃g cap,v=.slice (some (Ad g 0)) c.code.length cap/\∀i,i<c.code.length->w.cell? (Ad g (0+i))=some (.int .u8 (c.code.getD i 0)):=by
 rcases h.code.2 with⟨_,e⟩|⟨g,cap,cur,e1,e2,e3,e4,e5,e6,e7⟩
 .exact jq (List.length_eq_zero_iff.1 e) hne
 .refine⟨g,cap,e1,λi hi=>?_⟩;have hc:w.cell? (Ad g (0+i))=cur[0+i]? :=jH e3;rw[hc];have h1:=congrArg (λl:List jr=>l[i]?) e7;simp only[Nat.mul_one,uo]at h1;rw[iI hi,fV,bU hi]at h1;rw[gW,<-Array.getElem?_toList,h1];simp[List.getD,bU hi]
theorem aan{lo hi:Nat}(hL:sZ l)(hh:wF l w lo hi v)(hhi:hi<=w.heap.size)(hk:kN l<=1000000):
 Calls prog 46 #[v] w λe w'=>e=.returned (.string (strOfNums (xE l)))/\w.grownBy w' none:=by
 obtain⟨va,vc,hvf⟩:=F7 hh;obtain⟨vn,hvn⟩:∃vn,l.length=vn:=⟨_,rfl⟩;rw[hvn]at hvf;subst hvf;clear hvn;have hsum:=rD hL.ok;have hlen:=hL.len vC hk;have hlen:(kU l vC).code.length<=300000000:=by have:vC.code.length=0:=rfl;omega
 have H1:Hid (∀o,o=Obj.cells #[Nl,Nl,Im 8] 197->Calls prog 91 #[Pt w.heap.size 0,.slice va vn vc] (w.alloc o) λe w'=>e=.returned (.tuple #[])/\kF w' w.heap.size (kU l vC)/\w.grownBy w' none):=λo ho=>by
  subst ho;have g0:=ah w (.cells #[Nl,Nl,Im 8] 197) none;refine(hL.lay _ _ _ _ _ _ (hL.zG.loc _ _ _ _ _ hh λb _ b2=>g0.block b (by omega) (by simp)) hhi (aiV w) ⟨hk,by show(0:Int)+_<=_;omega,by show(0:Int)+_<=_;omega⟩).mono ?_;rintro e w' ⟨e1,e2,e3⟩;refine⟨e1,e2,⟨e3.os.trans g0.os,e3.tape.trans g0.tape,e3.output.trans g0.output,dH g0.size e3.size,λk hk' _=>(e3.keep k hk').trans (g0.block k hk' (by simp))⟩⟩
 clear hh hL;unfold xE;generalize kU l vC=cb at *;generalize hbs:(cb.lay 0 []).code=bs;have HBs:=jB hbs;clear hbs;go_enter func46,ntmps46;go_wp2_with fail;refine(H1.out _ rfl).mono ?_;rintro e w1 ⟨rfl,p1,g1⟩;have H2:=jB (FU p1 0 (by omega));have HG:=jB g1;clear p1 g1 H1;go_wp2_with fail;refine H2.out.mono ?_;rintro e w2 ⟨rfl,⟨v2,nv2,p2⟩,e2⟩;have HF:Hid (w.grownBy w2 none):=⟨e2.os.trans HG.out.os,e2.tape.trans HG.out.tape,e2.output.trans HG.out.output,dH HG.out.size e2.size,λk hk h=>(e2.keep k hk).trans (HG.out.block k hk h)⟩;have c0:=jJ 0 p2.jL rfl;obtain⟨g2,cap2,rfl,hcell⟩:=p2.bytes (by simp[Co.lay]);have hconv:(convert 194 9 (.slice (some (Ad g2 0)) (cb.lay 0 []).code.length cap2)).run prog w2=.ok (.string (strOfNums (cb.lay 0 []).code)) w2:=run_convert_bytes_arg w2 194 5 (by kernel_rfl) (by kernel_rfl) g2 0 (cb.lay 0 []).code.length cap2 _ rfl (λi hi=>hcell i hi) 9 (by kernel_rfl);rw[HBs.out]at hconv c0;clear p2 e2 H2 HG hcell;generalize bs.length=nb at *;go_wp2_with fail;go_ret;exact⟨rfl,HF.out⟩
theorem aoy(s:jm):sZ (mY s).1:=by
 unfold mY;split
 .exact Ib (by simp)
 .have hs:s.size<=4000:=by omega
  unfold uI;split
  .exact aqX s hs 21 _
  .exact Ib (by simp)
theorem aad(s:jm)(h:(lV s).2.1=0):sZ (lV s).1/\kN (lV s).1<=1000000:=by
 unfold lV at h⊢;split at h
 .contradiction
 split at h
 .contradiction
 split at h
 .exact jq h (by decide)
 .rename_i h1 h2 h3;rw[jk h1,jk h2,jk h3];exact⟨aoy s,by show kN (mY s).1<=1000000;omega⟩
def zW(s:jm):jm×Int×Int:=if (lV s).2.1≠0 then (⟨#[]⟩,(lV s).2.1,(lV s).2.2)else (strOfNums (xE (lV s).1),0,0)
theorem aar(s:jm)(w:jo):Calls prog 12 #[.string s,.bool false] w λe w'=>e=.returned (.tuple #[.string (zW s).1,Im (zW s).2.1,Im (zW s).2.2])/\w.grownBy w' none:=by
 have HC:=jB (aac s w);have DV:=jB (aad s);unfold zW;generalize lV s=R at *;obtain⟨L,en,ea⟩:=R;simp only at HC DV⊢;by_cases he:en=0
 .subst he;obtain⟨hL,hk⟩:=DV.out rfl;have HL:=jB (jg hL hk);clear DV hL hk;simp only[ne_eq,not_true_eq_false,cZ];generalize hcs:strOfNums (xE L)=cs at *;have RQ:=jB hcs;clear hcs;go_enter func12,ntmps12;go_wp2_with fail;refine HC.out.mono ?_;rintro e w1 ⟨v,rfl,h1,g1⟩;obtain⟨va,vn,vc,rfl⟩:=Jz h1;have HK:Hid (∀o,Calls prog 46 #[.slice va vn vc] (w1.alloc o) λe w'=>e=.returned (.string cs)/\w.grownBy w' none):=λo=>by
   rw[<-RQ.out];have g0:=ah w1 o none;refine(aan HL.out.1 (HL.out.1.flat (HL.out.1.law.loc _ _ _ _ _ h1 λb _ b2=>g0.block b (by omega) (by simp))) (dH (aj _) g0.size) HL.out.2).mono ?_;rintro e w' ⟨q1,q2⟩;exact⟨q1,(g1.trans g0).trans q2⟩
  clear h1 g1 HC HL;go_wp2_with fail;refine(HK.out _).mono ?_;rintro e w2 ⟨rfl,g2⟩;have HG:=jB g2;clear g2 HK;go_wp2_with fail;exact cu (by simp[results,Tryz.results12,go_sem]) rfl ⟨rfl,HG.out⟩
 .have hb:(en !=0)=true:=by simp[he]
  clear DV;rw[jl he];go_enter func12,ntmps12;go_wp2_with fail;refine HC.out.mono ?_;rintro e w1 ⟨v,rfl,h1,g1⟩;have HG:=jB g1;clear h1 g1 HC;go_wp2_with fail;go_quiet (fail);go_wp2_with fail;exact cu (by simp[results,Tryz.results12,go_sem]) rfl ⟨rfl,HG.out.trans ((ah _ _ none).trans (lH _ _))⟩
end
section
variable {w w' w1 w2 w3:jo}{lo hi m b H:Nat}{u v:jr}{e l r:Ex}{a:Int}{T:jv}
structure Fk(w w':jo)(lo hi:Nat):Prop where
 os:w'.os=w.os
 tape:w'.tape=w.tape
 output:w'.output=w.output
 size:w.heap.size<=w'.heap.size
 keep:∀k,k<w.heap.size->(k<lo\/hi<=k)->w'.heap[k]? =w.heap[k]?
theorem Fk.refl(w:jo)(lo hi:Nat):Fk w w lo hi:=⟨rfl,rfl,rfl,aj _,λ_ _ _=>rfl⟩
theorem Fk.trans(h:Fk w w1 lo hi)(k:Fk w1 w2 lo hi):Fk w w2 lo hi:=by
 have s1:=h.size;exact⟨k.os.trans h.os,k.tape.trans h.tape,k.output.trans h.output,dH h.size k.size,λj h1 h2=>(k.keep j (by omega) h2).trans (h.keep j h1 h2)⟩
theorem Fk.wide{lo' hi':Nat}(h:Fk w w' lo hi)(h1:lo'<=lo)(h2:hi<=hi'):Fk w w' lo' hi':=⟨h.os,h.tape,h.output,h.size,λk k1 k2=>h.keep k k1 (by omega)⟩
theorem Fk.grown(h:w.grownBy w' none):Fk w w' lo hi:=⟨h.os,h.tape,h.output,h.size,λk hk _=>h.block k hk (by simp)⟩
theorem Fk.set{j:Nat}(h1:lo<=b)(h2:b<hi):Fk w (w.setCell (Ad b j) u) lo hi:=by
 have g:=mX w b j u;exact⟨g.os,g.tape,g.output,g.size,λk hk h3=>g.block k hk (by intro e;cases e;omega)⟩
def o8(w w':jo)(lo m H hi:Nat):Prop:=∀k,(lo<=k/\k<m)\/(H<=k/\k<hi)->w'.heap[k]? =w.heap[k]?
theorem o8.refl(w:jo)(lo m H hi:Nat):o8 w w lo m H hi:=λ_ _=>rfl
theorem o8.trans(h:o8 w w1 lo m H hi)(k:o8 w1 w2 lo m H hi):o8 w w2 lo m H hi:=λj hj=>(k j hj).trans (h j hj)
theorem o8.less{lo' m' H' hi':Nat}(h:o8 w w' lo' m' H' hi')(h1:lo'<=lo)(h2:m<=m')(h3:H'<=H)(h4:hi<=hi'):o8 w w' lo m H hi:=λj hj=>h j (by omega)
def yJ(T:jv):Prop:=T≠405/\T≠392/\T≠379
def Bj(f:nY)(k:Int)(w:jo)(lo hi:Nat)(T:jv)(b:Nat)(e:Ex)(T2:jv)(b2:Nat):Prop:=
 (f.tag=1/\T=405/\w.cell? (Ad b 3)=some (Im f.val))\/
 (f.tag=2/\T=392/\∃t:Bool,w.cell? (Ad b 3)=some (.bool t)/\f.val=if t then 1 else 0)\/
 (f.tag=3/\T=379/\w.cell? (Ad b 4)=some (.iface T2 (Pt b2 0))/\yJ T2/\kE e/\e.does.give=f.sub/\e.jy<=k/\e.here e.at' w lo hi (.iface T2 (Pt b2 0)))\/
 (f.tag=0/\yJ T)
def mQ(f:nY)(k:Int)(w:jo)(lo m H hi:Nat)(v:jr):Prop:=
 ∃(e:Ex)(T:jv)(b:Nat)(e2:Ex)(T2:jv)(b2:Nat),v=.iface T (Pt b 0)/\lM T/\((lo<=b/\b<m)\/(H<=b/\b<hi))/\kE e/\e.does.give=f.give/\e.jy<=k/\(f.tag=3->lM T2/\((lo<=b2/\b2<m)\/(H<=b2/\b2<hi)))/\
  ∀w',o8 w w' lo m H hi->e.here e.at' w' lo hi v/\Bj f k w' lo hi T b e2 T2 b2
theorem Bj.wide{f:nY}{k k':Int}{lo' hi':Nat}{e:Ex}{T2:jv}{b2:Nat}(h:Bj f k w lo hi T b e T2 b2)(h1:lo'<=lo)(h2:hi<=hi')(hk:k<=k'):Bj f k' w lo' hi' T b e T2 b2:=by
 rcases h with h|h|⟨e1,e2,e3,e4,e5,e6,e7,e8⟩|h
 .exact ji h
 .exact jh (ji h)
 .exact jh (jh (ji ⟨e1,e2,e3,e4,e5,e6,by omega,(e5.ok.law _).wide _ _ _ _ _ _ e8 h1 h2⟩))
 .exact jh (jh (jh h))
theorem mQ.later{f:nY}{k:Int}(h:mQ f k w lo m H hi v)(ha:o8 w w' lo m H hi):mQ f k w' lo m H hi v:=by
 obtain⟨e,T,b,e2,T2,b2,h1,h2,h3,h4,h5,h6,h8,h7⟩:=h;exact⟨e,T,b,e2,T2,b2,h1,h2,h3,h4,h5,h6,h8,λw2 hw=>h7 w2 (ha.trans hw)⟩
theorem mQ.wide{f:nY}{k k':Int}{lo' m' H' hi':Nat}(h:mQ f k w lo m H hi v)(h1:lo'<=lo)(h2:m<=m')(h3:H'<=H)(h4:hi<=hi')(hk:k<=k'):mQ f k' w lo' m' H' hi' v:=by
 obtain⟨e,T,b,x2,T2,b2,e1,e2,e3,e4,e5,e6,e8,e7⟩:=h;refine⟨e,T,b,x2,T2,b2,e1,e2,by omega,e4,e5,by omega,λht=>⟨(e8 ht).1,by have:=(e8 ht).2;omega⟩,λw2 hw=>?_⟩;obtain⟨q1,q2⟩:=e7 w2 (hw.less h1 h2 h3 h4);exact⟨(e4.ok.law _).wide _ _ _ _ _ _ q1 h1 h4,q2.wide h1 h4 hk⟩
theorem mQ.here{f:nY}{k:Int}(h:mQ f k w lo m H hi v):∃e:Ex,kE e/\e.does.give=f.give/\e.jy<=k/\e.here e.at' w lo hi v:=by
 obtain⟨e,T,b,_,_,_,_,_,_,h1,h2,h3,_,h4⟩:=h;exact⟨e,h1,h2,h3,(h4 w (o8.refl _ _ _ _ _)).1⟩
structure nN(e:Ex):Prop where
 lW:kE e
 fold:∀a w lo hi T b,e.here a w lo hi (.iface T (Pt b 0))->hi<=w.heap.size->
  ∃f,(∀w,(method 576 T (Pt b 0) "helm/lang.fold").run prog w=.ok (f,Pt b 0) w)/\Enters f/\
   Calls prog f #[Pt b 0] w λen w'=>∃v',en=.returned v'/\mQ e.does.fd e.jy w' lo hi w.heap.size w'.heap.size v'/\Fk w w' lo hi
theorem aqd{a:Int}(he:kE e)(hg:e.does.fd.give=e.does.give)(hh:e.here a w lo hi (.iface T (Pt b 0)))(h3:e.does.fd.tag≠3)(hT:∀w',e.here a w' lo hi (.iface T (Pt b 0))->Bj e.does.fd e.jy w' lo hi T b qR 0 0)(h2:hi<=w.heap.size):mQ e.does.fd e.jy w lo hi w.heap.size w.heap.size (.iface T (Pt b 0)):=by
 obtain⟨T',b',hv,hI,b1,b2,_⟩:=he.ok.head _ _ _ _ _ hh;cases hv;refine⟨{e with at':=a,does:=e.does.fd.dn},T,b,qR,0,0,rfl,hI,ji ⟨b1,b2⟩,he.of ⟨he.ok.law,he.ok.head,he.ok.jy⟩ (λ_ _ _ _ _ h=>h) rfl hg,rfl,aV _,λh=>jq h h3,λw' ha=>?_⟩;have hw:=(he.ok.law _).loc _ _ _ _ _ hh λk k1 k2=>ha k (ji ⟨k1,k2⟩);exact⟨(he.ok.law _).wide _ _ _ _ _ _ hw (aj _) h2,(hT w' hw).wide (aj _) h2 (aV _)⟩
theorem P8(he:kE e)(hg:e.does.fd.give=e.does.give)(h3:e.does.fd.tag≠3)(hT:∀a w lo hi T b,e.here a w lo hi (.iface T (Pt b 0))->Bj e.does.fd e.jy w lo hi T b qR 0 0)
 (hw:∀a w lo hi T b,e.here a w lo hi (.iface T (Pt b 0))->∃f,(∀w,(method 576 T (Pt b 0) "helm/lang.fold").run prog w=.ok (f,Pt b 0) w)/\Enters f/\Calls prog f #[Pt b 0] w λen w'=>en=.returned (.iface T (Pt b 0))/\w'=w):nN e:=by
 refine⟨he,λa w lo hi T b hh h2=>?_⟩;obtain⟨f,m1,f1,H1⟩:=hw a w lo hi T b hh;refine⟨f,m1,f1,H1.mono ?_⟩;rintro en w' ⟨e1,rfl⟩;exact⟨_,e1,aqd he hg hh h3 (λw2 h=>hT a w2 lo hi T b h) h2,Fk.refl _ _ _⟩
theorem anE(a0 n:Int):nN (BN a0 n):=by
 refine P8 (adB a0 n) rfl (by show(1:Int)≠3;decide) ?_ ?_
 .rintro a w lo hi T b ⟨b',us,hv,h1,h2,h3,hb⟩;cases hv;exact ji ⟨rfl,rfl,jH hb⟩
 .rintro a w lo hi T b ⟨b',us,hv,h1,h2,h3,hb⟩;cases hv;refine⟨388,λw=>by kernel_rfl,λargs w=>by kernel_rfl,?_⟩;clear hb h3;go_enter func388,ntmps388;go_wp2_with fail;go_ret;exact⟨rfl,rfl⟩
theorem WX{a0 jy kind:Int}{t:Bool}(hok:kV (zO a0 jy kind t)):nN (zO a0 jy kind t):=by
 refine P8 (WY hok) rfl (by show(2:Int)≠3;decide) ?_ ?_
 .rintro a w lo hi T b ⟨b',us,hv,h1,h2,h3,hb⟩;cases hv;exact jh (ji ⟨rfl,rfl,t,jH hb,rfl⟩)
 .rintro a w lo hi T b ⟨b',us,hv,h1,h2,h3,hb⟩;cases hv;refine⟨379,λw=>by kernel_rfl,λargs w=>by kernel_rfl,?_⟩;clear hb h3;go_enter func379,ntmps379;go_wp2_with fail;go_ret;exact⟨rfl,rfl⟩
theorem Il{f:nY}{k:Int}{e:Ex}{T2:jv}{b2:Nat}(hf:f.tag=0)(h:yJ T):Bj f k w lo hi T b e T2 b2:=jh (jh (jh ⟨hf,h⟩))
theorem apE(a0 i:Int):nN (Dv a0 i):=by
 refine P8 (aeJ a0 i) rfl (by show(0:Int)≠3;decide) ?_ ?_
 .rintro a w lo hi T b ⟨b',us,hv,h1,h2,h3,hb⟩;cases hv;exact Il rfl (by unfold yJ;decide)
 .rintro a w lo hi T b ⟨b',us,hv,h1,h2,h3,hb⟩;cases hv;refine⟨373,λw=>by kernel_rfl,λargs w=>by kernel_rfl,?_⟩;clear hb h3;go_enter func373,ntmps373;go_wp2_with fail;go_ret;exact⟨rfl,rfl⟩
theorem arL(a0:Int)(t:Wd):nN (y8 a0 t):=by
 refine P8 (agp a0 t) rfl (by show(0:Int)≠3;decide) ?_ ?_
 .rintro a w lo hi T b ⟨k,b',us,hv,h1,h2,h3,hb⟩;cases hv;exact Il rfl (by unfold yJ;decide)
 .rintro a w lo hi T b ⟨k,b',us,hv,h1,h2,h3,hb⟩;cases hv;refine⟨376,λw=>by kernel_rfl,λargs w=>by kernel_rfl,?_⟩;clear hb h3;go_enter func376,ntmps376;go_wp2_with fail;go_ret;exact⟨rfl,rfl⟩
theorem arR(h:nN e)(a:Int):nN (e.widen a):=⟨agx h.lW a,h.fold⟩
end
end
end Go.Proofs.YthllhabjfchgiaaGreatDoor
