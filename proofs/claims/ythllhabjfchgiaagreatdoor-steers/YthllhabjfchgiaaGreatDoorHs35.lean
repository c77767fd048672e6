import Derived.Test.YthllhabjfchgiaaGreatDoorHs34
import Derived.Test.YthllhabjfchgiaaGreatDoorHs33
set_option maxRecDepth 100000
set_option maxHeartbeats 8000000
set_option linter.unusedSimpArgs false
namespace Go.Proofs.YthllhabjfchgiaaGreatDoor
open _root_.Go.Proofs.Tryz
section
open Go.RowKit Hx
attribute [local go_sem ↓] Go.wp_at_zero Go.wp_at_succ
attribute [local go_sem] kN
section
variable {s:ji}{ex:Ps->Ex×Ps}{d:Nat}{p:Ps}
theorem adN:(prog.info? 361).map (λi=>(i.zero,i.size,i.bytes))=some (some (.agg #[.string ⟨#[]⟩,Im 0,.nilIface]),3,40):=by kernel_rfl
structure Ux(s:ji)(ex:Ps->Ex×Ps)(d:Nat)(R:(Sx×Bool)×Ps)(P:Nat)(w:jk)(S:Nat)(wr:jk)(gg:Nat)(fv:jm)(g:Nat)(x:Sx)(us:List jm)(q:Ps)(m:Nat):Prop where
 heap:sJ P w wr S fv g x us m
 pr:jR wr P s q
 ok:q.Ok s
 deep:Deep (d+1) q
 Bd:pF x
 fuel:(s.size:Int)+1-q.k.at'<=gg
 len:x.jE.length+gg<=100000
 eq:qY s ex gg x q=R
theorem arq{w w':jk}{P:Nat}{q:Ps}(h:jR w P s q)(g:w'.heap[P]? =w.heap[P]?):jR w' P s q:=by
 have h:=h;have f:∀j,w'.cell? (Ad P j)=w.cell? (Ad P j):=λj=>bQ g;exact⟨by rw[f];exact h.c0,by rw[f];exact h.c1,by rw[f];exact h.c2,by rw[f];exact h.c3,by rw[f];exact h.c4,by rw[f];exact h.c5,by rw[f];exact h.c6,
  λj=>(dZ g).trans (h.fr j)⟩
theorem XU{w:jk}{B n:Nat}{v:jm}{o:List jm}(h:w.ownsRow B 361 3 v n o):∃a c,v=.slice a n c:=by
 rcases h with⟨_,⟨f,k⟩|⟨g,i,j,f,_⟩⟩
 .subst k;exact⟨_,_,f⟩
 .exact⟨_,_,f⟩
theorem alh{q:Ps}{f:Nat}(g:q.Ok s)(z:(s.size:Int)+1-q.k.at'<=f)(h:q.is [46]=true):∃i,f=i+1/\(s.size:Int)+1-(q.next s).k.at'<=i:=by
 have o:=g.tok.bd;have t:=Ho g;have x:=g.tok.zA;have y:q.k.text.size=1:=by
  have j:=eq_of_beq h;have n:q.k.text.data.toList.length=1:=by rw[j];rfl
  exact n
 refine⟨f-1,?_,?_⟩<;>omega
theorem ath(hs:s.size<=4000)(h:Reader s ex d)(ok:p.Ok s)(hd:Deep (d+1) p)(U:Int)(f:setOf p.k.text.data.toList=some U):zk s p (qY s ex (s.size+1) ⟨p.k.at',1,p.k.text,U,[]⟩ (p.next s)):=by
 intro P w hp;have ac:=hp.lt;have hL:=kH.lt hp;have gn:=oC ok (afa f);have e2:∀x:Ext w,x.val.cell? (Ad P 2)=some (.string p.k.text):=λx=>(kH.grow hp x.grown).c2;have e3:∀x:Ext w,x.val.cell? (Ad P 3)=some (Im p.k.at'):=λx=>(kH.grow hp x.grown).c3;have bs:=Qs w;have HW:=jA (λw' (hg:w.grownBy w' none)=>kH.grow hp hg);have HX:Hid (∀x:Ext w,Calls prog 234 #[Im p.k.at',Nl] x.val λe bj=>e=.returned (.agg #[Im p.k.at',Im 1])/\∃y:Ext w,bj=y.val):=λx=>acD _ x;have Uf:Hid (∀q:Ps,q.Ok s->∀x,jR x P s q->Calls prog 236 #[Pt P 0] x (qN P s x (xY q.k) (q.next s))):=λq o x L=>xQ L o hs;have ap:=jA (λx (L:jR x P s p)=>xQ L ok hs);have Ik:Hid (∀q:Ps,q.Ok s->Deep (d+1) q->∀x,jR x P s q->Calls prog 257 #[Pt P 0] x λe w'=>∃u,e=.returned (JV (qm s ex q).1.1 u)/\(qm s ex q).1.2.here (qm s ex q).1.2.at' w' x.heap.size w'.heap.size u/\jR w' P s (qm s ex q).2/\x.grownBy w' (some P)):=λq o hq x L=>abG hs h o hq P x L;have HG:=jA h.good;have aH:U=3/\(p.k.text.toList==[82,79,65,68,83])=true\/U=4/\(p.k.text.toList==[82,79,65,68,83])=false/\((p.k.text.toList==[70,82,69,83,72])=true\/(p.k.text.toList==[70,82,69,83,72])=false/\(p.k.text.toList==[65,71,65,73,78])=true):=by
  rw[aZ];unfold setOf at f;generalize p.k.text.data.toList=tl at *;cases h1:(tl==[82,79,65,68,83])with
  |true=>rw[h1]at f;simp at f;exact jf ⟨f.symm,rfl⟩
  |false=>
   rw[h1]at f;cases h2:(tl==[70,82,69,83,72])with
   |true=>rw[h2]at f;simp at f;exact je ⟨f.symm,rfl,jf rfl⟩
   |false=>
    cases h3:(tl==[65,71,65,73,78])with
    |true=>rw[h2,h3]at f;simp at f;exact je ⟨f.symm,rfl,je ⟨rfl,rfl⟩⟩
    |false=>rw[h2,h3]at f;simp at f
 have ar:Hid (∀I w2 S,w.grownBy I (some P)->w.heap.size<=S->I.heap[S]? =some (.cells #[Im p.k.at',Im 1,.string p.k.text,Im U,Nl] 348)->jR w2 P s (p.next s)->I.grownBy w2 (some P)->Ux s ex d (qY s ex (s.size+1) ⟨p.k.at',1,p.k.text,U,[]⟩ (p.next s)) P w S w2 (s.size+1) (Nl) 0 ⟨p.k.at',1,p.k.text,U,[]⟩ [] (p.next s) (S+1)):=λI w2 S h1 h2 h3 h4 h5=>by
  have hf:pF ⟨p.k.at',1,p.k.text,U,[]⟩:=⟨by simp,SX f,by simp⟩;have h0:sJ P w I S (Nl) 0 ⟨p.k.at',1,p.k.text,U,[]⟩ [] (S+1):=sJ.start h3 rfl h2 h1;have O:=gn.ok.tok.zA;exact⟨h0.keep hf ac h5,h4,gn.ok,hd.good gn,hf,by omega,by simp;omega,rfl⟩
 generalize qY s ex (s.size+1) ⟨p.k.at',1,p.k.text,U,[]⟩ (p.next s)=R at *;clear hp h ok hd gn f;go_enter func243,ntmps243;go_wp2_with fail;refine TQ 12 (by kernel_rfl) (by kernel_rfl) ?_;simp only[aC,aO,aG,aQ];repeat (go_big_quiet_step ((go_at_call 234;exact HX.out _)))
 refine bF ?_;intro I hg;have f2:=kH.c2 (HW.out I hg);have bo:=kH.lt (HW.out I hg);have n1:¬P=I.heap.size:=by omega
 have Uc:=jA hg;clear e2 e3 hg HX;go_upto_block 0 with fail;go_cut [] (λwy=>Hid (jR wy P s p/\wy.heap[I.heap.size]? =some (.cells #[Im p.k.at',Im 1,.string p.k.text,Im U,Nl] 348)/\w.grownBy wy (some P)))
 case first=>
  have HF:Hid (∀o,o=Obj.cells #[Im p.k.at',Im 1,.string p.k.text,Im U,Nl] 348->jR (I.alloc o) P s p/\(I.alloc o).heap[I.heap.size]? =some (.cells #[Im p.k.at',Im 1,.string p.k.text,Im U,Nl] 348)/\w.grownBy (I.alloc o) (some P)):=λo ho=>by
   subst ho;exact⟨kH.grow (HW.out I Uc.out) (ah _ _ none),aY _ _,((Uc.out).trans (ah _ _ none)).but _⟩
  rcases aH with⟨rfl,t1⟩|⟨rfl,t1,t2|⟨t2,t3⟩⟩;all_goals (go_wp2_with fail;go_meet;exact HF.out _ rfl)
 case rest=>
  obtain⟨aL,aM,aP⟩:=hcut.out;have HY:=jA (jd aL (jd aM (jd aP Uc.out.size)));clear hcut aL aM aP aH f2;go_wp2_with fail;refine(ap.out _ HY.out.1).mono ?_;rintro e w2 ⟨rfl,p2,g2⟩;have HO:=ar.out _ _ _ HY.out.2.2.1 HY.out.2.2.2 HY.out.2.1 p2 g2;generalize I.heap.size=S at *;have HO:=jA HO;clear p2 g2 ap ar HY HW;have bm:=HO.out.heap.H6;go_wp2_with fail;go_loopg [] (s.size+1) (λE wr=>Hid (∃fv g x us q m,Ux s ex d R P w S wr E fv g x us q m))
  case atStart=>exact⟨_,_,_,_,_,_,HO.out⟩
  case round=>
   obtain⟨fv,g,x,us,q,m,hI⟩:=hrel.out;clear hrel HO;have A:=jA hI;have Y:Hid (Calls prog 242 #[Pt P 0,.string ⟨#[46]⟩] wr λe w'=>e=.returned (.bool (q.is [46]))/\w'=wr):=I5 hI.pr [46];clear hI;cases t0:q.is [46]with
   |false=>
    rw[t0]at Y;have HF:Hid (R=((x,false),q)):=by
     have:=A.out.eq;rw[<-this];cases gk with
     |zero=>rfl
     |succ n=>unfold qY;rw[t0];rfl
    go_wp2_with fail;refine Y.out.mono ?_;rintro e w3 ⟨rfl,rfl⟩;go_wp2_with fail;go_ret2;rw[HF.out];exact⟨_,rfl,A.out.heap.out,A.out.pr,A.out.heap.grown⟩
   |true=>
    rw[t0]at Y;obtain⟨g',ba,an⟩:=alh A.out.ok A.out.fuel t0;have gn:=oC A.out.ok (oW (by simp) t0);have MB:=jA gn;have ao:=jA an;have HE:Hid (qY s ex (g'+1) x q=R):=by have:=A.out.eq;rw[ba]at this;exact this
    clear gn an;go_wp2_with fail;refine Y.out.mono ?_;rintro e w3 ⟨rfl,rfl⟩;go_wp2_with fail;refine(Uf.out q A.out.ok _ A.out.pr).mono ?_;rintro e w4 ⟨rfl,p4,g4⟩;have nI:=jA (jd p4 g4);have Z:Hid (Calls prog 242 #[Pt P 0,.string ⟨#[102,105,108,116,101,114]⟩] w4 λe w'=>e=.returned (.bool ((q.next s).is [102,105,108,116,101,114]))/\w'=w4):=I5 p4 _;clear p4 g4 Y;cases t1:(q.next s).is [102,105,108,116,101,114]with
    |false=>
     rw[t1]at Z;have HF:Hid (R=((x,true),q.next s)):=by rw[<-HE.out];unfold qY;rw[t0,t1];rfl
     go_wp2_with fail;refine Z.out.mono ?_;rintro e w5 ⟨rfl,rfl⟩;go_wp2_with fail;go_ret2;rw[HF.out];have hk:=A.out.heap.keep A.out.Bd ac nI.out.2;exact⟨_,rfl,hk.out,nI.out.1,hk.grown⟩
    |true=>
     rw[t1]at Z;have J8:=oC MB.out.ok (oW (by simp) t1);have am:=A.out.deep.good (MB.out.trans J8);have Gg:=jA (Ik.out _ J8.ok am);obtain⟨gb,xb⟩:=Qe HG.out J8.ok am;have X:=jA (jd ((MB.out.trans J8).trans gb) (jd xb ((J8.trans gb).mono)));have ae:Hid (qY s ex g' (x.add (qm s ex ((q.next s).next s)).1) (qm s ex ((q.next s).next s)).2=R):=by
      have:=HE.out;unfold qY at this;rw[t0,t1]at this;exact this
     have Gf:=jA (Uf.out _ MB.out.ok);clear J8 am gb xb HE Ik Uf;generalize qm s ex ((q.next s).next s)=bq at *;obtain⟨⟨⟨D,B⟩,i⟩,q2⟩:=bq;simp only at Gg X ae;generalize (q.next s).next s=q1 at *;have Gg:Hid (∀y,jR y P s q1->Calls prog 257 #[Pt P 0] y λe w'=>∃u,e=.returned (.agg #[.string D,Im B,u])/\i.here i.at' w' y.heap.size w'.heap.size u/\jR w' P s q2/\y.grownBy w' (some P)):=Gg.out;go_wp2_with fail;refine Z.out.mono ?_;rintro e w5 ⟨rfl,rfl⟩;go_wp2_with fail;refine(Gf.out _ nI.out.1).mono ?_;rintro e w6 ⟨rfl,p6,g6⟩;have Gh:=jA (jd p6 (nI.out.2.trans g6));clear p6 g6 nI Z Gf;go_wp2_with fail;refine(Gg.out _ Gh.out.1).mono ?_;rintro e M ⟨ub,rfl,e7,p7,g7⟩;obtain⟨N,z,bf,bp,b1,b2,b3⟩:=X.out.2.1.sH e7;subst bf;have BR:=jA (jd e7 (jd p7 g7));clear e7 p7 g7 Gg b1 b2 b3;go_upto_region 16 with fail;have Q:(M.alloc (.cells #[.string D,Im B,.iface N (Pt z 0)] 361)).heap[M.heap.size]? =some (.cells #[.string D,Im B,.iface N (Pt z 0)] 361):=aY _ _;have ab:M.grownBy (M.alloc (.cells #[.string D,Im B,.iface N (Pt z 0)] 361)) none:=ah _ _ none;have aV:M.heap.size+1<=(M.alloc (.cells #[.string D,Im B,.iface N (Pt z 0)] 361)).heap.size:=by rw[oz];exact aj _
     generalize hW:M.alloc (.cells #[.string D,Im B,.iface N (Pt z 0)] 361)=W at *;clear hW;have L:=A.out.Bd;have F:=A.out.heap.keep L ac (Gh.out.2.trans (BR.out.2.2.trans (ab.but _)));obtain⟨fa,fc,a9⟩:=XU F.own;subst a9;have bl:x.jE.length<=100000:=by have:=A.out.len;omega
     have bb:m<=w6.heap.size:=dH A.out.heap.FB Gh.out.2.size;have aW:=BR.out.2.2.size;have a0:=ab.size;have ak:i.here i.at' W w6.heap.size M.heap.size (.iface N (Pt z 0)):=(X.out.2.1.law _).loc _ _ _ _ _ BR.out.1 (λb _ hb=>ab.block b hb (by simp));have c4:W.cell? (Ad S 4)=some (.slice fa x.jE.length fc):=jG F.set;have ai:=lT F.set;have k0:W.cell? (Ad M.heap.size 0)=some (.string D):=jG Q;have k1:W.cell? (Ad M.heap.size 1)=some (Im B):=jG Q;have k2:W.cell? (Ad M.heap.size 2)=some (.iface N (Pt z 0)):=jG Q;have al:=lT Q;obtain⟨i0,aB,aR,aS,aT⟩:=info_parts adN;have HO:Hid (∀(o:Obj)(n:Nat),((W.alloc o).drewN n).ownsRow (S+1) 361 3 (.slice fa x.jE.length fc) x.jE.length (xK x.jE us)):=λo n=>
      (F.own.alloc o).kept (w':=(W.alloc o).drewN n) (row:=none) ⟨rfl,rfl,rfl,aj _,λ_ _ _=>rfl⟩ (by cases (Value.slice fa x.jE.length fc).ownBlock<;>simp)
     have aq:Hid (jR W P s q2):=BR.out.2.1.grow ab;have HQ:Hid (∀(o:Obj)(n:Nat)(w1:jk)(E G:Nat),((W.alloc o).drewN n).grownBy w1 (Value.slice fa x.jE.length fc).ownBlock->w1.ownsRow (S+1) 361 3 (.slice (some (Ad E 0)) (x.jE.length+1) G) (x.jE.length+1) (xK x.jE us++[.string D,Im B,.iface N (Pt z 0)])->((Value.slice fa x.jE.length fc).ownBlock=some E\/E=W.heap.size+1)->E<w1.heap.size->
      (∃DT V m',sJ P w (w1.setCell (Ad S 4) (.slice (some (Ad E 0)) (x.jE.length+1) G)) S DT E {x with jE:=x.jE++[(⟨D,B⟩,i)]} V m')/\jR (w1.setCell (Ad S 4) (.slice (some (Ad E 0)) (x.jE.length+1) G)) P s q2/\
      (w1.setCell (Ad S 4) (.slice (some (Ad E 0)) (x.jE.length+1) G)).heap[M.heap.size]? =some (.cells #[.string D,Im B,.iface N (Pt z 0)] 361)/\
      (w1.setCell (Ad S 4) (.slice (some (Ad E 0)) (x.jE.length+1) G)).cell? (Ad z 1)=some (Im i.jw)/\(∃u,w1.cell? (Ad S 4)=some u)/\w1.frozen? (Ad S 4)=false):=by
      intro o n w1 E G az aI O aD;have CV:W.grownBy ((W.alloc o).drewN n) none:=(ah W o none).trans (lu _ n);obtain⟨n1,n2⟩:=F.pI CV az;have aw:=F.add (d:=⟨D,B⟩) L X.out.2.1 CV az aI (O.elim jf λe=>je (by omega)) aD ak bb aW (by omega);have ag:w1.heap[S]? =some (.cells #[Im x.at',Im x.jw,.string x.base,Im x.of,.slice fa x.jE.length fc] 348):=(n1 S ai (je (je (aj _)))).trans F.set;have QL:=F.Hg;have bn:=F.H6;obtain⟨T3,A3,bh,_,b1,b2,b3⟩:=X.out.2.1.sH ak;cases bh;have aa:(w1.setCell (Ad S 4) (.slice (some (Ad E 0)) (x.jE.length+1) G)).heap[M.heap.size]? =some (.cells #[.string D,Im B,.iface N (Pt z 0)] 361):=by
       rw[bC _ _ _ _ (by simp only;omega),n1 _ al (je (jf (by omega)))];exact Q
      have hA:(w1.setCell (Ad S 4) (.slice (some (Ad E 0)) (x.jE.length+1) G)).heap[z]? =W.heap[z]? :=by
       rw[bC _ _ _ _ (by simp only;omega),n1 _ (by omega) (je (jf (by omega)))]
      refine⟨⟨_,_,_,aw⟩,?_,aa,(bQ hA).trans b3,⟨_,jG ag⟩,nA ag⟩;refine jR.Ej ?_ (by omega) _ _;have aX:w1.heap[P]? =W.heap[P]? :=n1 P (by omega) (je (je (by omega)));exact arq aq.out aX
     have aE:x.jE.length+1<=maxLen:=by unfold maxLen;omega
     have ay:(x.jE.length+1) * 40<=140737488355328:=by omega
     have nS:¬S=W.heap.size:=by omega
     clear F ak Q ab;generalize xK x.jE us=af at *;generalize x.jE.length=aU at *;go_cut [] (λwz=>Hid (∃E DT V m',sJ P w wz S DT E {x with jE:=x.jE++[(⟨D,B⟩,i)]} V m'/\jR wz P s q2/\wz.heap[M.heap.size]? =some (.cells #[.string D,Im B,.iface N (Pt z 0)] 361)/\wz.cell? (Ad z 1)=some (Im i.jw)))
     case first=>
      go_region_law ((refine step_append_lies _ (by rfl) _ _ _ (by rfl) (S+1) 361 i0 _ 3 40 Tryz.underlying346 aB aR aS aT (by rfl) (by omega) (.slice fa aU fc) aU af (by rfl) (HO.out _ 1) (Ad W.heap.size 0) 1 1 [.string D,Im B,.iface N (Pt z 0)] (by rfl) (by rfl) (fM (cs:=#[.string D,Im B,.iface N (Pt z 0)]) (t:=361) (fr:=(0,0)) (aY W _)) (by simp[Value.oneCell']) (by omega) aE ay (by simp;omega) (W.heap.size+1) (by simp) ?_;intro E bk w3 K J O ad;obtain⟨bA,V8⟩:=(HQ.out _ 1 _ _ _ J K O ad).2.2.2.2.1;have VP:=(HQ.out _ 1 _ _ _ J K O ad).2.2.2.2.2));all_goals (go_wp2_with fail;go_meet;obtain⟨⟨a1,a2,a3,a4⟩,a5,a6,a7,_⟩:=HQ.out _ 1 _ _ _ J K O ad;exact⟨_,a1,a2,a3,a4,a5,a6,a7⟩)
     case rest=>
      obtain⟨E,DT,V,m',F,av,aa,au⟩:=hcut.out;clear hcut HQ HO c4 k0 k1 k2 aE ay nS aR aS aT aB ai a0 al aV;have aK:pF {x with jE:=x.jE++[(⟨D,B⟩,i)]}:=⟨L.jw,L.of,λb hb=>by
       rcases List.mem_append.1 hb with hb|hb
       .exact L.all b hb
       .rw[cO.1 hb];exact X.out.2.1⟩
      have ai:=lT F.set;have c1:wc.cell? (Ad S 1)=some (Im x.jw):=jG F.set;have c3:wc.cell? (Ad S 3)=some (Im x.of):=jG F.set;have fz:∀j,wc.frozen? (Ad S j)=false:=λj=>nA F.set;have al:=lT aa;have k2:wc.cell? (Ad M.heap.size 2)=some (.iface N (Pt z 0)):=jG aa;have O3:Hid (∀y,wc.grownBy y none->y.cell? (Ad S 3)=some (Im x.of)):=λy hy=>hy.cell c3 (by simp);have OA:Hid (∀y,wc.grownBy y none->y.cell? (Ad z 1)=some (Im i.jw)):=λy hy=>hy.cell au (by simp);have a8:=L.jw;have ax:=X.out.2.1.jw;have bd:=tC (x:=x) ax;have xC:Hid (∀y,(wc.setCell (Ad S 1) (Im (kZ [x.jw,x.round i.jw]))).grownBy y none->Ux s ex d R P w S y g' DT E (x.add (⟨D,B⟩,i)) V q2 m'):=λy hy=>by
       have h0:=F.jw aK ac (aN _ _) (kZ [x.jw,x.round i.jw]);have h1:sJ P w y S DT E (x.add (⟨D,B⟩,i)) V m':=sJ.keep h0 (L.add X.out.2.1) ac (hy.but _);have ag:=F.H6;have hl:=A.out.len;have an:=ao.out;have br:=X.out.2.2;refine⟨h1,kH.grow (jR.Ej av (by omega) _ _) hy,X.out.1.ok,A.out.deep.good X.out.1,L.add X.out.2.1,by omega,?_,ae.out⟩;show(x.jE++[((⟨D,B⟩:Wd),i)]).length+g'<=100000;simp only[aA,aF,bg];omega
      obtain⟨o1,o2,aJ⟩:∃o1 o2:Obj,∀y:jk,y.cell? (Ad S 3)=some (Im x.of)->Calls prog 245 #[Pt S 0,Im i.jw] y λe w'=>e=.returned (Im (x.round i.jw))/\w'=(y.alloc o1).alloc o2:=⟨_,_,λy hy=>SL (x:=x) (S:=S) hy i.jw ax⟩;have EJ:Hid (∀y:jk,wc.grownBy y none->Calls prog 245 #[Pt S 0,Im i.jw] y λe w'=>e=.returned (Im (x.round i.jw))/\w'=(y.alloc o1).alloc o2):=λy hy=>aJ y (O3.out y hy);clear aJ O3 F av aa au ae ao A MB Gh BR aq X aK L;generalize x.round i.jw=rc at *;generalize i.jw=bc at *;generalize bi:x.jw=xc at *;clear bi;have bu:S<wc.heap.size+1:=by omega
      have bv:S<wc.heap.size+1+1:=by omega
      have bw:S<wc.heap.size+1+1+1:=by omega
      have bx:S<wc.heap.size+2:=by omega
      have bz:S<wc.heap.size+3:=by omega
      have bt:¬S=wc.heap.size:=by omega
      go_wp2_with fail;go_region_with (first
       |(go_at_call 244;refine(uq z 0 bc (OA.out _ (by repeat (first|exact aN _ _|refine E5 ?_|refine DX ?_|refine Ko ?_)))).mono ?_;rintro e w' ⟨rfl,rfl⟩)
       |(go_at_call 245;refine(EJ.out _ (by repeat (first|exact aN _ _|refine E5 ?_|refine DX ?_|refine Ko ?_))).mono ?_;rintro e w' ⟨rfl,rfl⟩)
       |(go_at_call 143;refine(Px (aia xc rc a8 bd (jG (a:=#[Im xc,Im rc]) (T:=3) (by repeat (first|(with_reducible refine Oa ?_;simp only[oz];done)|with_reducible refine N9 ?_|with_reducible refine N8 ?_))) (jG (a:=#[Im xc,Im rc]) (T:=3) (by repeat (first|(with_reducible refine Oa ?_;simp only[oz];done)|with_reducible refine N9 ?_|with_reducible refine N8 ?_))))).mono ?_;rintro e w' ⟨rfl,rfl⟩))
      all_goals (go_wp2_with fail;go_roundg g')
      all_goals (first|(show _<_;omega)|exact⟨_,_,_,_,_,_,xC.out _ (DX (E5 (E5 (E5 (aN _ _)))))⟩)
theorem atg(f:setOf p.k.text.data.toList=none):zk s p ((⟨p.k.at',1,p.k.text,4,[]⟩,false),p.fail):=by
 intro P w i;have D:=i.lt;have R:∀x:Ext w,x.val.cell? (Ad P 2)=some (.string p.k.text):=λx=>(kH.grow i x.grown).c2;have U:∀x:Ext w,x.val.cell? (Ad P 3)=some (Im p.k.at'):=λx=>(kH.grow i x.grown).c3;have Y:=Qs w;have z:=jA (λw' (h:w.grownBy w' none)=>kH.grow i h);have I:Hid (∀x:Ext w,Calls prog 234 #[Im p.k.at',Nl] x.val λe G=>e=.returned (.agg #[Im p.k.at',Im 1])/\∃y:Ext w,G=y.val):=λx=>acD _ x;have E:(p.k.text.toList==[82,79,65,68,83])=false/\(p.k.text.toList==[70,82,69,83,72])=false/\(p.k.text.toList==[65,71,65,73,78])=false:=by
  rw[aZ];unfold setOf at f;generalize p.k.text.data.toList=F at *;cases j:(F==[82,79,65,68,83])with
  |true=>rw[j]at f;simp at f
  |false=>
   rw[j]at f;cases n:(F==[70,82,69,83,72])with
   |true=>rw[n]at f;simp at f
   |false=>
    cases B:(F==[65,71,65,73,78])with
    |true=>rw[n,B]at f;simp at f
    |false=>exact⟨rfl,rfl,rfl⟩
 obtain⟨t1,t2,t3⟩:=E;have N:=jA (λx (Z:jR x P s p)=>EX Z);have nZ:Hid (∀y w2 S,w.heap.size<=S->w.grownBy y (some P)->y.heap[S]? =some (.cells #[Im p.k.at',Im 1,.string p.k.text,Im 4,Nl] 348)->y.grownBy w2 (some P)->oZ ⟨p.k.at',1,p.k.text,4,[]⟩ w2 w.heap.size w2.heap.size (Pt S 0)/\w.grownBy w2 (some P)):=λy w2 S j n B W=>by
  have V:sJ P w y S (Nl) 0 ⟨p.k.at',1,p.k.text,4,[]⟩ [] (S+1):=sJ.start B rfl j n;have K:=V.keep ⟨by simp,je rfl,by simp⟩ D W;exact⟨K.out,K.grown⟩
 generalize p.fail=q at *;clear i f;go_enter func243,ntmps243;go_wp2_with fail;refine TQ 12 (by kernel_rfl) (by kernel_rfl) ?_;simp only[aC,aO,aG,aQ];repeat (go_big_quiet_step ((go_at_call 234;exact I.out _)))
 refine bF ?_;intro g h;have f2:=kH.c2 (z.out g h);have X:=kH.lt (z.out g h);have n1:¬P=g.heap.size:=by omega
 have A:Hid (∀o,jR (g.alloc o) P s p/\(g.alloc o).heap[g.heap.size]? =some o/\w.grownBy (g.alloc o) (some P)):=λo=>⟨kH.grow (z.out g h) (ah _ _ none),aY _ _,(h.trans (ah _ _ none)).but _⟩;have t:=jA h.size;clear R U h I;go_wp2_with fail;refine(N.out _ (A.out _).1).mono ?_;rintro e w2 ⟨rfl,L,J⟩;have M:Hid (oZ ⟨p.k.at',1,p.k.text,4,[]⟩ w2 w.heap.size w2.heap.size (Pt g.heap.size 0)/\jR w2 P s q/\w.grownBy w2 (some P)):=by
  obtain⟨O,Q⟩:=nZ.out _ w2 _ t.out (A.out _).2.2 (A.out _).2.1 J;exact⟨O,L,Q⟩
 clear L J;go_wp2_with fail;go_ret2;exact⟨_,rfl,M.out⟩
theorem ati(i:s.size<=4000)(h:Reader s ex d)(k:p.Ok s)(g:Deep (d+1) p):zk s p (nB s ex (s.size+1) p):=by
 unfold nB;split
 .rename_i j f;exact ath i h k g j f
 .rename_i f;exact atg f
theorem atj(i:s.size<=4000):Uy s:=⟨λ_ _ h _ g f=>ati i h g f,λ_ _ h _ _ k g f j n=>apA i h g f j n k⟩
end
section
variable {w:jk}{s:ji}
def oP(s:ji):List jI×Int×Int:=if 4000<s.size then ([],1,0)else xU (mV s 21 (yF s))
theorem aq0(h:4000<s.size):Calls prog 88 #[.string s] w λe w'=>e=.returned (.tuple #[Nl,.agg #[Im 1,Im 0]])/\w.grownBy w' none:=by
 have f:decide ((4000:Int)<(s.size:Int))=true:=by simp;omega
 go_enter func88,ntmps88;go_wp2_with fail;refine cu (Sr _ _ w.heap.size _ 1 0 rfl rfl ?_) rfl ⟨rfl,?_⟩
 .exact aY _ _
 .exact ah _ _ none
theorem aq1(hs:s.size<=4000):Calls prog 88 #[.string s] w λe w'=>∃v,e=.returned (.tuple #[v,.agg #[Im (xU (mV s 21 (yF s))).2.1,Im (xU (mV s 21 (yF s))).2.2]])/\mY (xU (mV s 21 (yF s))).1 w' w.heap.size w'.heap.size v/\w.grownBy w' none:=by
 have d1:decide ((4000:Int)<(s.size:Int))=false:=by simp;omega
 have HS:=jA (λw=>agN s 0 w hs (by omega));have W:=jA (λP x (h:kH x P s (Hx.scan s 0) 0 0 0)=>ahz hs (atj hs) 21 (yF s) (SA s) (agd s) P x h);have V:=jA ((Tz s 21 (yF s) (SA s) (agd s)).2);generalize mV s 21 (yF s)=R at *;obtain⟨L,q⟩:=R;simp only at W V;generalize Hx.scan s 0=k at *;go_enter func88,ntmps88;go_wp2_with fail;refine(HS.out _).mono ?_;rintro e w1 ⟨rfl,Z⟩;have I:=(Z.block _ (by simp) (by simp)).trans (aY w _);have M:=jA (jd ((ah w _ none).trans Z) I);clear Z I HS;have HP:Hid (∀o,o=Obj.cells #[.string s,Im k.kind,.string k.text,Im k.at',Im 0,Im 0,Im 0] 252->kH (w1.alloc o) w1.heap.size s k 0 0 0):=by
  intro o ho;have t:(w1.alloc o).heap[w1.heap.size]? =some (.cells #[.string s,Im k.kind,.string k.text,Im k.at',Im 0,Im 0,Im 0] 252):=by rw[<-ho];exact aY w1 o
  exact⟨jG t,jG t,jG t,jG t,jG t,jG t,jG t,λj=>nA t⟩
 unfold xY;go_wp2_with fail;refine(W.out _ _ (HP.out _ rfl)).mono ?_;rintro e w2 ⟨v,rfl,Y,U,Q⟩;have s1:=M.out.1.size;have af:=lT M.out.2;have J:w.grownBy w2 none:=by
  have h1:=M.out.1.trans (ah w1 (Obj.cells #[.string s,Im k.kind,.string k.text,Im k.at',Im 0,Im 0,Im 0] 252) none);exact h1.andThen Q (λj e=>by cases e;exact jf s1)
 have y:=(Q.block _ (by simp;omega) (by simp;omega)).trans (((ah w1 _ none).block _ (by omega) (by simp)).trans M.out.2);have K:mY L w2 (w1.heap.size+1) w2.heap.size v:=by rw[oz]at Y;exact Y
 have ac:w1.heap.size<w2.heap.size:=by have:=Q.size;rw[oz]at this;omega
 have HM:Hid (∀w3,w2.grownBy w3 (some w1.heap.size)->w3.heap[w.heap.size]? =some (.cells #[Im 0,Im 0] 107)/\w.grownBy w3 none/\∀a b,mY L ((w3.setCell (Ad w.heap.size 0) a).setCell (Ad w.heap.size 1) b) w.heap.size w3.heap.size v):=λw3 S=>by
  refine⟨(S.block _ (lT y) (by simp;omega)).trans y,J.andThen S (λj e=>by cases e;exact jf s1),λa b=>?_⟩;refine(uN V.out).wide _ _ _ _ _ _ ((uN V.out).loc _ _ _ _ _ K (λj ae aa=>?_)) (by omega) S.size;rw[bC _ _ _ _ (by simp only;omega),bC _ _ _ _ (by simp only;omega)];exact S.block j aa (by simp;omega)
 have D:=jA U;have X:=jA (EX U);have c1:=kH.c1 U;clear Y U Q y J HP W M K;generalize w1.heap.size=P at *;by_cases z:q.k.kind=1
 .rw[z]at c1;have A:GL q=q:=by unfold GL;rw[jh z]
  have c5:=kH.c5 D.out;have c6:=kH.c6 D.out;obtain⟨f,F,O⟩:=HM.out w2 (aN _ _);have r0:=jJ 0 f rfl;have r1:=jJ 1 f rfl;have rf:=qV f;have i:=jA (jd f (jd F O));clear f F O X;by_cases n:q.en=0
  .have E:Hid (xU (L,q)=(L,0,0)):=by
    have G:xU (L,q)=(L,0,0):=by unfold xU;simp only[A,jh n]
    exact G
   rw[n]at c5;clear A z n;go_wp2_with fail;have N:=Ei w2 w.heap.size _ _ _ (Im 0) (Im 0) i.out.1;refine cu (Sr _ _ w.heap.size _ 0 0 rfl rfl N) rfl ?_;rw[E.out];refine⟨_,rfl,?_,pR (pR i.out.2.1 (aj _) _ _) (aj _) _ _⟩;have ab:((w2.setCell (Ad w.heap.size 0) (Im 0)).setCell (Ad w.heap.size 1) (Im 0)).heap.size=w2.heap.size:=by simp[World.setCell]
   rw[ab];exact i.out.2.2 _ _
  .have E:Hid (xU (L,q)=([],q.en,q.ea)):=by
    have G:xU (L,q)=([],q.en,q.ea):=by unfold xU;simp only[A,jg n]
    exact G
   have hb:(q.en !=0)=true:=by simp[n]
   clear A z;go_wp2_with fail;refine nO 5 (by kernel_rfl) (by kernel_rfl) ?_;simp only[aC,aO,aG,aQ];repeat (go_big_quiet_step (fail))
   refine bF ?_;intro _ B;obtain⟨n3,g⟩:=B;subst g;go_wp2_with fail;have N:=Ei w2 w.heap.size _ _ _ (Im q.en) (Im q.ea) i.out.1;refine cu (Sr _ _ w.heap.size _ q.en q.ea rfl rfl N) rfl ?_;rw[E.out];exact⟨_,rfl,jf ⟨rfl,rfl⟩,(pR (pR i.out.2.1 (aj _) _ _) (aj _) _ _).trans (lu _ _)⟩
 .have A:GL q=q.fail:=by unfold GL;rw[jg z]
  have n:¬q.fail.en=0:=by unfold Ps.fail;simp only;split<;>omega
  have E:Hid (xU (L,q)=([],q.fail.en,q.fail.ea)):=by
   have G:xU (L,q)=([],q.fail.en,q.fail.ea):=by unfold xU;simp only[A,jg n]
   exact G
  have hb:(q.fail.en !=0)=true:=by simp[n]
  have ad:(q.k.kind !=1)=true:=by simp[z]
  clear A z;go_wp2_with fail;refine X.out.mono ?_;rintro e w3 ⟨rfl,p3,g3⟩;have c5:=kH.c5 p3;have c6:=kH.c6 p3;obtain⟨f,F,O⟩:=HM.out w3 g3;have r0:=jJ 0 f rfl;have r1:=jJ 1 f rfl;have rf:=qV f;have i:=jA (jd f F);clear f F O X p3 g3;go_wp2_with fail;refine nO 5 (by kernel_rfl) (by kernel_rfl) ?_;simp only[aC,aO,aG,aQ];repeat (go_big_quiet_step (fail))
  refine bF ?_;intro _ B;obtain⟨n3,g⟩:=B;subst g;go_wp2_with fail;have N:=Ei w3 w.heap.size _ _ _ (Im q.fail.en) (Im q.fail.ea) i.out.1;refine cu (Sr _ _ w.heap.size _ q.fail.en q.fail.ea rfl rfl N) rfl ?_;rw[E.out];exact⟨_,rfl,jf ⟨rfl,rfl⟩,(pR (pR i.out.2 (aj _) _ _) (aj _) _ _).trans (lu _ _)⟩
theorem aqZ(s:ji)(w:jk):Calls prog 88 #[.string s] w λe w'=>∃v,e=.returned (.tuple #[v,.agg #[Im (oP s).2.1,Im (oP s).2.2]])/\mY (oP s).1 w' w.heap.size w'.heap.size v/\w.grownBy w' none:=by
 unfold oP;split
 .rename_i h;refine(aq0 h).mono ?_;rintro e w' ⟨rfl,f⟩;exact⟨_,rfl,jf ⟨rfl,rfl⟩,f⟩
 .exact aq1 (by omega)
theorem Xl(d:Nat):zY d []:=aek (by simp) (by simp)
theorem auD(f:s.size<=4000)(d:Nat)(p:Ps):zY d (mV s d p).1:=
 Tv s mg AQ zY (alJ s f) (λd=>aoU (s.size+1) (by omega) d) Xl (λ_ _ g h=>aek h (by omega)) d p
def nH(s:ji):List jI×Int×Int:=
 if (oP s).2.1≠0 then ([],(oP s).2.1,(oP s).2.2)
 else if (qK (oP s).1 ⟨[],0,0⟩).en≠0 then ([],(qK (oP s).1 ⟨[],0,0⟩).en,(qK (oP s).1 ⟨[],0,0⟩).ea)
 else if 1000000<sumOf (oP s).1 then ([],4,0)else ((oP s).1,0,0)
theorem aq3(s:ji):zY 21 (oP s).1/\(oP s).1.length<=5000:=by
 unfold oP;split
 .exact⟨Xl _,by simp⟩
 .have f:s.size<=4000:=by omega
  unfold xU;split
  .exact⟨auD f 21 _,by have:=ahy s 21 (yF s);show(mV s 21 (yF s)).1.length<=5000;omega⟩
  .exact⟨Xl _,by simp⟩
theorem Qi(f:Array jm)(w:jk)(g:Nat)(v:jm)(a b:Int)(i:f[2]? =some v)(j:f[3]? =some (Pt g 0))(h:w.heap[g]? =some (.cells #[Im a,Im b] 107)):
 (results Tryz.f44 f).run prog w=.ok (.tuple #[v,.agg #[Im a,Im b]]) w:=by
 have k:=jJ 0 h rfl;have n:=jJ 1 h rfl;simp[results,Tryz.results44,go_sem,i,j,k,n]
theorem abR(s:ji)(w:jk):Calls prog 44 #[.string s] w λe w'=>∃v,e=.returned (.tuple #[v,.agg #[Im (nH s).2.1,Im (nH s).2.2]])/\mY (nH s).1 w' w.heap.size w'.heap.size v/\w.grownBy w' none:=by
 have Z:=jA (λy=>aqZ s y);obtain⟨hL,G⟩:=aq3 s;have t:Hid (nH s=if (oP s).2.1≠0 then ([],(oP s).2.1,(oP s).2.2)
  else if (qK (oP s).1 ⟨[],0,0⟩).en≠0 then ([],(qK (oP s).1 ⟨[],0,0⟩).en,(qK (oP s).1 ⟨[],0,0⟩).ea)
  else if 1000000<sumOf (oP s).1 then ([],4,0)else ((oP s).1,0,0)):=rfl
 have D:=jA (jd hL G);clear hL G;generalize nH s=R at *;generalize oP s=P at *;obtain⟨L,x,E⟩:=P;simp only at Z D t;go_enter func44,ntmps44;go_wp2_with fail;refine(Z.out _).mono ?_;rintro e w1 ⟨v,rfl,h1,V⟩;rw[oz]at h1;have s1:=V.size;rw[oz]at s1;have i:=(V.block _ (by simp) (by simp)).trans (aY w _);have O:=jA (jd ((ah w _ none).trans V) (jd i h1));have r0:=jJ 0 i rfl;have r1:=jJ 1 i rfl;have rf:=qV i;have ab:=lT i;have n1:¬w.heap.size=w1.heap.size:=by omega
 clear V i h1 Z;by_cases he:x=0
 .subst he;have ad:=KG O.out.2.2;obtain⟨W,Y,X,rfl⟩:=ad;have hB:Calls prog 89 #[Pt (w1.heap.size+1) 0,.slice W Y X] ((w1.alloc (.cells #[Im 0,Im E] 107)).alloc (.cells #[Nl,Im 0,Im 0] 188)) λx w'=>x=.returned (.tuple #[])/\mY L w' (w.heap.size+1) w1.heap.size (.slice W Y X)/\kV w' (w1.heap.size+1) (qK L ⟨[],0,0⟩)/\Lk ((w1.alloc (.cells #[Im 0,Im E] 107)).alloc (.cells #[Nl,Im 0,Im 0] 188)) w' (w.heap.size+1) w1.heap.size (w1.heap.size+1):=by
   have A:w1.grownBy ((w1.alloc (.cells #[Im 0,Im E] 107)).alloc (.cells #[Nl,Im 0,Im 0] 188)) none:=(ah w1 _ none).trans (ah _ _ none);have aa:=D.out.1.law.loc _ _ _ _ _ O.out.2.2 (λb _ hb=>A.block b hb (by simp));exact D.out.1.look _ _ _ _ _ ⟨[],0,0⟩ aa (by omega) ⟨Nl,VO w1 _ _,fK _ _ _ _⟩ (by simp)
  have HB:Hid (Calls prog 89 #[Pt (w1.heap.size+1) 0,.slice W Y X] ((w1.alloc (.cells #[Im 0,Im E] 107)).alloc (.cells #[Nl,Im 0,Im 0] 188)) λx w'=>x=.returned (.tuple #[])/\mY L w' (w.heap.size+1) w1.heap.size (.slice W Y X)/\kV w' (w1.heap.size+1) (qK L ⟨[],0,0⟩)/\w'.heap[w.heap.size]? =some (.cells #[Im 0,Im 0] 107)/\w.grownBy w' none/\w1.heap.size+1<w'.heap.size):=hB.mono λx w' ⟨S,U,I,B⟩=>by
   have A:w1.grownBy ((w1.alloc (.cells #[Im 0,Im E] 107)).alloc (.cells #[Nl,Im 0,Im 0] 188)) none:=(ah w1 _ none).trans (ah _ _ none);have o:=O.out.1.trans A;refine⟨S,U,I,?_,⟨B.os.trans o.os,B.tape.trans o.tape,B.output.trans o.output,dH o.size B.size,λk hk _=>(B.keep k (by omega) (jf (by omega))).trans (o.block k hk (by simp))⟩,I.lt⟩;exact(B.keep _ (by omega) (jf (by omega))).trans ((A.block _ ab (by simp)).trans O.out.2.1)
  clear hB;go_wp2_with fail;refine HB.out.mono ?_;rintro e w2 ⟨rfl,S,⟨nv,U⟩,I,B,q5⟩;have z:=jA (jd S (jd I B));have Gj:=jA (Jv D.out.1.ok (by have:=D.out.2;omega) (Jk D.out.1.ok S));have y1:=jJ 1 U.jM rfl;have y2:=jJ 2 U.jM rfl;have z0:=jJ 0 I rfl;have z1:=jJ 1 I rfl;have zf:=qV I;clear S U I B HB r0 r1 rf;generalize ae:qK L ⟨[],0,0⟩=cc at *;obtain⟨cn,Q,ca⟩:=cc;simp only at y1 y2 t;by_cases M:Q=0
  .subst M;by_cases h:1000000<sumOf L
   .have g:Hid (R=([],4,0)):=by have n:=t.out;simp only[ne_eq,not_true_eq_false,cZ,jh h]at n;exact n
    have d1:decide ((1000000:Int)<sumOf L)=true:=by simpa using h
    clear t;go_wp2_with fail;refine Gj.out.mono ?_;rintro e w3 ⟨rfl,F⟩;have f:=(F.block _ (lT z.out.2.1) (by simp)).trans z.out.2.1;have a0:=jJ 0 f rfl;have a1:=jJ 1 f rfl;have af:=qV f;have K:=jA (jd f (z.out.2.2.trans F));clear F f;go_wp2_with fail;have J:=Ei w3 w.heap.size _ _ _ (Im 4) (Im 0) K.out.1;refine cu (Qi _ _ w.heap.size _ 4 0 rfl rfl J) rfl ?_;rw[g.out];exact⟨_,rfl,jf ⟨rfl,rfl⟩,pR (pR K.out.2 (aj _) _ _) (aj _) _ _⟩
   .have g:Hid (R=(L,0,0)):=by have n:=t.out;simp only[ne_eq,not_true_eq_false,cZ,jg h]at n;exact n
    have d1:decide ((1000000:Int)<sumOf L)=false:=by simpa using h
    clear t;go_wp2_with fail;refine Gj.out.mono ?_;rintro e w3 ⟨rfl,F⟩;have f:=(F.block _ (lT z.out.2.1) (by simp)).trans z.out.2.1;have a0:=jJ 0 f rfl;have a1:=jJ 1 f rfl;have af:=qV f;have K:=jA (jd f (jd (z.out.2.2.trans F) F));clear F f;go_wp2_with fail;have J:=Ei w3 w.heap.size _ _ _ (Im 0) (Im 0) K.out.1;refine cu (Qi _ _ w.heap.size _ 0 0 rfl rfl J) rfl ?_;rw[g.out];refine⟨_,rfl,?_,pR (pR K.out.2.1 (aj _) _ _) (aj _) _ _⟩;have ac:((w3.setCell (Ad w.heap.size 0) (Im 0)).setCell (Ad w.heap.size 1) (Im 0)).heap.size=w3.heap.size:=by simp[World.setCell]
    rw[ac];have s3:=K.out.2.2.size;refine D.out.1.law.wide _ _ _ _ _ _ (D.out.1.law.loc _ _ _ _ _ z.out.1 (λj ag ai=>?_)) (by omega) (by omega);rw[bC _ _ _ _ (by simp only;omega),bC _ _ _ _ (by simp only;omega)];exact K.out.2.2.block j (by omega) (by simp)
  .have g:Hid (R=([],Q,ca)):=by have n:=t.out;simp only[ne_eq,not_true_eq_false,cZ,M,not_false_eq_true,dM]at n;exact n
   have hb:(Q !=0)=true:=by simp[M]
   clear t;go_wp2_with fail;refine nO 3 (by kernel_rfl) (by kernel_rfl) ?_;simp only[aC,aO,aG,aQ];repeat (go_big_quiet_step (fail))
   refine bF ?_;intro _ N;obtain⟨n3,q⟩:=N;subst q;go_wp2_with fail;have J:=Ei w2 w.heap.size _ _ _ (Im Q) (Im ca) z.out.2.1;refine cu (Qi _ _ w.heap.size _ Q ca rfl rfl J) rfl ?_;rw[g.out];exact⟨_,rfl,jf ⟨rfl,rfl⟩,(pR (pR z.out.2.2 (aj _) _ _) (aj _) _ _).trans (lu _ _)⟩
 .have hb:(x !=0)=true:=by simp[he]
  have g:Hid (R=([],x,E)):=by have n:=t.out;rw[jh he]at n;exact n
  clear t;go_wp2_with fail;refine nO 2 (by kernel_rfl) (by kernel_rfl) ?_;simp only[aC,aO,aG,aQ];repeat (go_big_quiet_step (fail))
  refine bF ?_;intro _ N;obtain⟨n3,q⟩:=N;subst q;go_wp2_with fail;have J:=Ei w1 w.heap.size _ _ _ (Im x) (Im E) O.out.2.1;refine cu (Qi _ _ w.heap.size _ x E rfl rfl ((fP _ _ _ (lT J)).trans J)) rfl ?_;rw[g.out];exact⟨_,rfl,jf ⟨rfl,rfl⟩,(pR (pR O.out.1 (aj _) _ _) (aj _) _ _).trans ((ah _ _ none).trans (lu _ _))⟩
end
section
variable {w:jk}{C:Nat}{c:Co}{l:List jI}{v nv:jm}
def vT:Co:=⟨[],[],8⟩
def yA(l:List jI):List Int:=((kW l vT).lay 0 []).code
theorem ak1(w:jk):kG (w.alloc (.cells #[Nl,Nl,Im 8] 197)) w.heap.size vT:=
 ⟨Nl,Nl,aY w _,fK _ _ _ _,fK _ _ _ _,λg e=>by cases e⟩
theorem pJ.bytes(h:pJ w C v nv c)(n:c.code≠[]):∃g f,v=.slice (some (Ad g 0)) c.code.length f/\∀i,i<c.code.length->w.cell? (Ad g (0+i))=some (.int .u8 (c.code.getD i 0)):=by
 rcases h.code.2 with⟨_,e⟩|⟨g,f,j,o,y,q,z,A,B,t⟩
 .exact jl (List.length_eq_zero_iff.1 e) n
 .refine⟨g,f,o,λi hi=>?_⟩;have x:w.cell? (Ad g (0+i))=j[0+i]? :=jG q;rw[x];have k:=congrArg (λl:List jm=>l[i]?) t;simp only[Nat.mul_one,uI]at k;rw[iG hi,fV,bU hi]at k;rw[gW,<-Array.getElem?_toList,k];simp[List.getD,bU hi]
theorem ab6{lo hi:Nat}(y:tV l)(J:wW l w lo hi v)(K:hi<=w.heap.size)(A:sumOf l<=1000000):
 Calls prog 46 #[v] w λe w'=>e=.returned (.string (strOfNums (yA l)))/\w.grownBy w' none:=by
 obtain⟨va,vc,E⟩:=G7 J;obtain⟨M,F⟩:∃M,l.length=M:=⟨_,rfl⟩;rw[F]at E;subst E;clear F;have R:=rP y.ok;have D:=y.len vT A;have D:(kW l vT).code.length<=300000000:=by have:vT.code.length=0:=rfl;omega
 have N:Hid (∀o,o=Obj.cells #[Nl,Nl,Im 8] 197->Calls prog 91 #[Pt w.heap.size 0,.slice va M vc] (w.alloc o) λe w'=>e=.returned (.tuple #[])/\kG w' w.heap.size (kW l vT)/\w.grownBy w' none):=λo Y=>by
  subst Y;have t:=ah w (.cells #[Nl,Nl,Im 8] 197) none;refine(y.lay _ _ _ _ _ _ (y.Ai.loc _ _ _ _ _ J λb _ b2=>t.block b (by omega) (by simp)) K (ak1 w) ⟨A,by show(0:Int)+_<=_;omega,by show(0:Int)+_<=_;omega⟩).mono ?_;rintro e w' ⟨X,j,x⟩;refine⟨X,j,⟨x.os.trans t.os,x.tape.trans t.tape,x.output.trans t.output,dH t.size x.size,λk B _=>(x.keep k B).trans (t.block k B (by simp))⟩⟩
 clear J y;unfold yA;generalize kW l vT=G at *;generalize z:(G.lay 0 []).code=V;have I:=jA z;clear z;go_enter func46,ntmps46;go_wp2_with fail;refine(N.out _ rfl).mono ?_;rintro e w1 ⟨rfl,S,P⟩;have O:=jA (GU S 0 (by omega));have q:=jA P;clear S P N;go_wp2_with fail;refine O.out.mono ?_;rintro e w2 ⟨rfl,⟨v2,Z,L⟩,j⟩;have U:Hid (w.grownBy w2 none):=⟨j.os.trans q.out.os,j.tape.trans q.out.tape,j.output.trans q.out.output,dH q.out.size j.size,λk A h=>(j.keep k A).trans (q.out.block k A h)⟩;have W:=jJ 0 L.jM rfl;obtain⟨Q,g,rfl,f⟩:=L.bytes (by simp[Co.lay]);have n:(convert 194 9 (.slice (some (Ad Q 0)) (G.lay 0 []).code.length g)).run prog w2=.ok (.string (strOfNums (G.lay 0 []).code)) w2:=run_convert_bytes_arg w2 194 5 (by kernel_rfl) (by kernel_rfl) Q 0 (G.lay 0 []).code.length g _ rfl (λi hi=>f i hi) 9 (by kernel_rfl);rw[I.out]at n W;clear L j O q f;generalize V.length=nb at *;go_wp2_with fail;go_ret;exact⟨rfl,U.out⟩
theorem aq4(s:ji):tV (oP s).1:=by
 unfold oP;split
 .exact I9 (by simp)
 .have f:s.size<=4000:=by omega
  unfold xU;split
  .exact auC s f 21 _
  .exact I9 (by simp)
theorem abS(s:ji)(h:(nH s).2.1=0):tV (nH s).1/\sumOf (nH s).1<=1000000:=by
 unfold nH at h⊢;split at h
 .contradiction
 split at h
 .contradiction
 split at h
 .exact jl h (by decide)
 .rename_i f g i;rw[jg f,jg g,jg i];exact⟨aq4 s,by show sumOf (oP s).1<=1000000;omega⟩
def CJ(s:ji):ji×Int×Int:=if (nH s).2.1≠0 then (⟨#[]⟩,(nH s).2.1,(nH s).2.2)else (strOfNums (yA (nH s).1),0,0)
theorem ak5(s:ji)(w:jk):Calls prog 12 #[.string s,.bool false] w λe w'=>e=.returned (.tuple #[.string (CJ s).1,Im (CJ s).2.1,Im (CJ s).2.2])/\w.grownBy w' none:=by
 have f:=jA (abR s w);have k:=jA (abS s);unfold CJ;generalize nH s=R at *;obtain⟨L,y,N⟩:=R;simp only at f k⊢;by_cases t:y=0
 .subst t;obtain⟨A,B⟩:=k.out rfl;have g:=jA (jd A B);clear k A B;simp only[ne_eq,not_true_eq_false,cZ];generalize j:strOfNums (yA L)=E at *;have D:=jA j;clear j;go_enter func12,ntmps12;go_wp2_with fail;refine f.out.mono ?_;rintro e w1 ⟨v,rfl,i,h⟩;obtain⟨I,K,J,rfl⟩:=KG i;have x:Hid (∀o,Calls prog 46 #[.slice I K J] (w1.alloc o) λe w'=>e=.returned (.string E)/\w.grownBy w' none):=λo=>by
   rw[<-D.out];have q:=ah w1 o none;refine(ab6 g.out.1 (g.out.1.flat (g.out.1.law.loc _ _ _ _ _ i λb _ M=>q.block b (by omega) (by simp))) (dH (aj _) q.size) g.out.2).mono ?_;rintro e w' ⟨F,G⟩;exact⟨F,(h.trans q).trans G⟩
  clear i h f g;go_wp2_with fail;refine(x.out _).mono ?_;rintro e w2 ⟨rfl,z⟩;have n:=jA z;clear z x;go_wp2_with fail;exact cu (by simp[results,Tryz.results12,go_sem]) rfl ⟨rfl,n.out⟩
 .have O:(y !=0)=true:=by simp[t]
  clear k;rw[jh t];go_enter func12,ntmps12;go_wp2_with fail;refine f.out.mono ?_;rintro e w1 ⟨v,rfl,i,h⟩;have n:=jA h;clear i h f;go_wp2_with fail;go_quiet (fail);go_wp2_with fail;exact cu (by simp[results,Tryz.results12,go_sem]) rfl ⟨rfl,n.out.trans ((ah _ _ none).trans (lu _ _))⟩
end
section
variable {w w' w1 w2 w3:jk}{lo hi m b H:Nat}{u v:jm}{e l r:Ex}{a:Int}{T:jo}
structure Fk(w w':jk)(lo hi:Nat):Prop where
 os:w'.os=w.os
 tape:w'.tape=w.tape
 output:w'.output=w.output
 size:w.heap.size<=w'.heap.size
 keep:∀k,k<w.heap.size->(k<lo\/hi<=k)->w'.heap[k]? =w.heap[k]?
theorem Fk.refl(w:jk)(lo hi:Nat):Fk w w lo hi:=⟨rfl,rfl,rfl,aj _,λ_ _ _=>rfl⟩
theorem Fk.trans(h:Fk w w1 lo hi)(k:Fk w1 w2 lo hi):Fk w w2 lo hi:=by
 have i:=h.size;exact⟨k.os.trans h.os,k.tape.trans h.tape,k.output.trans h.output,dH h.size k.size,λj g f=>(k.keep j (by omega) f).trans (h.keep j g f)⟩
theorem Fk.wide{g f:Nat}(h:Fk w w' lo hi)(j:g<=lo)(n:hi<=f):Fk w w' g f:=⟨h.os,h.tape,h.output,h.size,λk i o=>h.keep k i (by omega)⟩
theorem Fk.grown(h:w.grownBy w' none):Fk w w' lo hi:=⟨h.os,h.tape,h.output,h.size,λk f _=>h.block k f (by simp)⟩
theorem Fk.set{j:Nat}(h:lo<=b)(i:b<hi):Fk w (w.setCell (Ad b j) u) lo hi:=by
 have g:=mM w b j u;exact⟨g.os,g.tape,g.output,g.size,λk f n=>g.block k f (by intro e;cases e;omega)⟩
def qA(w w':jk)(lo m H hi:Nat):Prop:=∀k,(lo<=k/\k<m)\/(H<=k/\k<hi)->w'.heap[k]? =w.heap[k]?
theorem qA.refl(w:jk)(lo m H hi:Nat):qA w w lo m H hi:=λ_ _=>rfl
theorem qA.trans(h:qA w w1 lo m H hi)(k:qA w1 w2 lo m H hi):qA w w2 lo m H hi:=λj f=>(k j f).trans (h j f)
theorem qA.less{g k i f:Nat}(h:qA w w' g k i f)(n:g<=lo)(o:m<=k)(q:i<=H)(t:hi<=f):qA w w' lo m H hi:=λj x=>h j (by omega)
def zi(T:jo):Prop:=T≠405/\T≠392/\T≠379
def Ce(f:oK)(k:Int)(w:jk)(lo hi:Nat)(T:jo)(b:Nat)(e:Ex)(T2:jo)(b2:Nat):Prop:=
 (f.tag=1/\T=405/\w.cell? (Ad b 3)=some (Im f.val))\/
 (f.tag=2/\T=392/\∃t:Bool,w.cell? (Ad b 3)=some (.bool t)/\f.val=if t then 1 else 0)\/
 (f.tag=3/\T=379/\w.cell? (Ad b 4)=some (.iface T2 (Pt b2 0))/\zi T2/\kF e/\e.does.give=f.sub/\e.jw<=k/\e.here e.at' w lo hi (.iface T2 (Pt b2 0)))\/
 (f.tag=0/\zi T)
def mO(f:oK)(k:Int)(w:jk)(lo m H hi:Nat)(v:jm):Prop:=
 ∃(e:Ex)(T:jo)(b:Nat)(e2:Ex)(T2:jo)(b2:Nat),v=.iface T (Pt b 0)/\lQ T/\((lo<=b/\b<m)\/(H<=b/\b<hi))/\kF e/\e.does.give=f.give/\e.jw<=k/\(f.tag=3->lQ T2/\((lo<=b2/\b2<m)\/(H<=b2/\b2<hi)))/\
  ∀w',qA w w' lo m H hi->e.here e.at' w' lo hi v/\Ce f k w' lo hi T b e2 T2 b2
theorem Ce.wide{f:oK}{k q:Int}{i g:Nat}{e:Ex}{j:jo}{n:Nat}(h:Ce f k w lo hi T b e j n)(D:i<=lo)(E:hi<=g)(G:k<=q):Ce f q w i g T b e j n:=by
 rcases h with h|h|⟨t,x,y,z,o,A,F,B⟩|h
 .exact jf h
 .exact je (jf h)
 .exact je (je (jf ⟨t,x,y,z,o,A,by omega,(o.ok.law _).wide _ _ _ _ _ _ B D E⟩))
 .exact je (je (je h))
theorem mO.later{f:oK}{k:Int}(h:mO f k w lo m H hi v)(B:qA w w' lo m H hi):mO f k w' lo m H hi v:=by
 obtain⟨e,T,b,j,g,i,n,o,q,t,x,y,A,z⟩:=h;exact⟨e,T,b,j,g,i,n,o,q,t,x,y,A,λw2 D=>z w2 (B.trans D)⟩
theorem mO.wide{f:oK}{k y:Int}{i z o g:Nat}(h:mO f k w lo m H hi v)(j:i<=lo)(I:m<=z)(J:o<=H)(n:hi<=g)(K:k<=y):mO f y w i z o g v:=by
 obtain⟨e,T,b,O,A,B,D,E,P,q,F,Q,t,G⟩:=h;refine⟨e,T,b,O,A,B,D,E,by omega,q,F,by omega,λx=>⟨(t x).1,by have:=(t x).2;omega⟩,λw2 L=>?_⟩;obtain⟨M,N⟩:=G w2 (L.less j I J n);exact⟨(q.ok.law _).wide _ _ _ _ _ _ M j n,N.wide j n K⟩
structure nV(e:Ex):Prop where
 lZ:kF e
 fold:∀a w lo hi T b,e.here a w lo hi (.iface T (Pt b 0))->hi<=w.heap.size->
  ∃f,(∀w,(method 576 T (Pt b 0) "helm/lang.fold").run prog w=.ok (f,Pt b 0) w)/\Enters f/\
   Calls prog f #[Pt b 0] w λen w'=>∃v',en=.returned v'/\mO e.does.fd e.jw w' lo hi w.heap.size w'.heap.size v'/\Fk w w' lo hi
theorem asY{a:Int}(f:kF e)(z:e.does.fd.give=e.does.give)(i:e.here a w lo hi (.iface T (Pt b 0)))(q:e.does.fd.tag≠3)(x:∀w',e.here a w' lo hi (.iface T (Pt b 0))->Ce e.does.fd e.jw w' lo hi T b rJ 0 0)(g:hi<=w.heap.size):mO e.does.fd e.jw w lo hi w.heap.size w.heap.size (.iface T (Pt b 0)):=by
 obtain⟨E,F,A,t,n,o,_⟩:=f.ok.head _ _ _ _ _ i;cases A;refine⟨{e with at':=a,does:=e.does.fd.dn},T,b,rJ,0,0,rfl,t,jf ⟨n,o⟩,f.of ⟨f.ok.law,f.ok.head,f.ok.jw⟩ (λ_ _ _ _ _ h=>h) rfl z,rfl,aV _,λh=>jl h q,λw' y=>?_⟩;have j:=(f.ok.law _).loc _ _ _ _ _ i λk B D=>y k (jf ⟨B,D⟩);exact⟨(f.ok.law _).wide _ _ _ _ _ _ j (aj _) g,(x w' j).wide (aj _) g (aV _)⟩
theorem Rn(i:kF e)(y:e.does.fd.give=e.does.give)(t:e.does.fd.tag≠3)(x:∀a w lo hi T b,e.here a w lo hi (.iface T (Pt b 0))->Ce e.does.fd e.jw w lo hi T b rJ 0 0)
 (z:∀a w lo hi T b,e.here a w lo hi (.iface T (Pt b 0))->∃f,(∀w,(method 576 T (Pt b 0) "helm/lang.fold").run prog w=.ok (f,Pt b 0) w)/\Enters f/\Calls prog f #[Pt b 0] w λg w'=>g=.returned (.iface T (Pt b 0))/\w'=w):nV e:=by
 refine⟨i,λa w lo hi T b j q=>?_⟩;obtain⟨f,A,o,k⟩:=z a w lo hi T b j;refine⟨f,A,o,k.mono ?_⟩;rintro g w' ⟨n,rfl⟩;exact⟨_,n,asY i y j t (λw2 h=>x a w2 lo hi T b h) q,Fk.refl _ _ _⟩
theorem ap1(h n:Int):nV (Ak h n):=by
 refine Rn (aff h n) rfl (by show(1:Int)≠3;decide) ?_ ?_
 .rintro a w lo hi T b ⟨k,t,g,o,q,j,f⟩;cases g;exact jf ⟨rfl,rfl,jG f⟩
 .rintro a w lo hi T b ⟨k,t,g,o,q,j,f⟩;cases g;refine⟨388,λw=>by kernel_rfl,λi w=>by kernel_rfl,?_⟩;clear f j;go_enter func388,ntmps388;go_wp2_with fail;go_ret;exact⟨rfl,rfl⟩
theorem Yw{i jw kind:Int}{t:Bool}(g:kT (AB i jw kind t)):nV (AB i jw kind t):=by
 refine Rn (Yx g) rfl (by show(2:Int)≠3;decide) ?_ ?_
 .rintro a w lo hi T b ⟨n,x,h,o,q,k,f⟩;cases h;exact je (jf ⟨rfl,rfl,t,jG f,rfl⟩)
 .rintro a w lo hi T b ⟨n,x,h,o,q,k,f⟩;cases h;refine⟨379,λw=>by kernel_rfl,λj w=>by kernel_rfl,?_⟩;clear f k;go_enter func379,ntmps379;go_wp2_with fail;go_ret;exact⟨rfl,rfl⟩
theorem Ji{f:oK}{k:Int}{e:Ex}{g:jo}{i:Nat}(j:f.tag=0)(h:zi T):Ce f k w lo hi T b e g i:=je (je (je ⟨j,h⟩))
theorem asc(g i:Int):nV (Ee g i):=by
 refine Rn (agx g i) rfl (by show(0:Int)≠3;decide) ?_ ?_
 .rintro a w lo hi T b ⟨n,t,f,o,q,j,k⟩;cases f;exact Ji rfl (by unfold zi;decide)
 .rintro a w lo hi T b ⟨n,t,f,o,q,j,k⟩;cases f;refine⟨373,λw=>by kernel_rfl,λh w=>by kernel_rfl,?_⟩;clear k j;go_enter func373,ntmps373;go_wp2_with fail;go_ret;exact⟨rfl,rfl⟩
theorem avn(g:Int)(t:Wd):nV (nK g t):=by
 refine Rn (aij g t) rfl (by show(0:Int)≠3;decide) ?_ ?_
 .rintro a w lo hi T b ⟨k,n,x,f,o,q,i,j⟩;cases f;exact Ji rfl (by unfold zi;decide)
 .rintro a w lo hi T b ⟨k,n,x,f,o,q,i,j⟩;cases f;refine⟨376,λw=>by kernel_rfl,λh w=>by kernel_rfl,?_⟩;clear j i;go_enter func376,ntmps376;go_wp2_with fail;go_ret;exact⟨rfl,rfl⟩
theorem avz(h:nV e)(a:Int):nV (e.widen a):=⟨ait h.lZ a,h.fold⟩
end
end
end Go.Proofs.YthllhabjfchgiaaGreatDoor
