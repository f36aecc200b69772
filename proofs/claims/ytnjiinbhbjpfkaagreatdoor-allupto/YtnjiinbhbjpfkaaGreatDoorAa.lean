import Derived.Test.YtnjiinbhbjpfkaaGreatDoorAV
import Derived.Test.YtnjiinbhbjpfkaaGreatDoorAE
import Derived.Test.YtnjiinbhbjpfkaaGreatDoorAR
import Derived.Test.YtnjiinbhbjpfkaaGreatDoorAN
import Derived.Test.YtnjiinbhbjpfkaaGreatDoorAQ
import Derived.Test.YtnjiinbhbjpfkaaGreatDoorAJ
import Derived.Test.YtnjiinbhbjpfkaaGreatDoorAM
import Derived.Test.YtnjiinbhbjpfkaaGreatDoorAI
import Derived.Test.YtnjiinbhbjpfkaaGreatDoorAU
set_option maxRecDepth 100000
set_option maxHeartbeats 0
set_option linter.all false
namespace Go.Proofs.YtnjiinbhbjpfkaaGreatDoor
open Go.RowKit Go.Proofs.Tryz
namespace F
variable {f t:Nat}{g:eM}{p:dH}{s:Pl}{w:aa}
def Fix(p:dH)(w:aa):Prop:=∀b,p.fx b->w.heap[b]?=p.fc b
structure PW(p:dH):Prop where
 n1:1<=p.n
 n2:p.n<=200
 e0:p.E0 0=.slice (some ⟨p.gb,0,none⟩) p.nf p.nf
 e1:p.E0 1=.int .i64 p.qn
 e2:p.E0 2=.int .i64 p.wk
 e3:p.E0 3=.int .i64 p.mt
 Gf:p.E0 27=P0 p.sb
 gb:p.fx p.gb
 tab:∀w,Fix p w->∀f,f<p.nf->w.cell? ⟨p.gb,f*2,none⟩=some (.int .i64<|p.rg f)/\w.cell? ⟨p.gb,f*2+1,none⟩=some (.slice (some ⟨p.cb f,0,none⟩) (p.len f)<|p.len f)
 rg:∀f,f<p.nf->2<=p.rg f/\p.rg f<=8
 ea:∀o,o<23->p.E0 (4+o)=(ue p.ac).getD o undef
 bx:∀w,Fix p w->∀j,j<32->w.cell? ⟨p.ac+j,0,none⟩=some ((nZ p.ac).getD j (undef,0)).1/\w.heap[p.ac+j]?=some (.cells #[((nZ p.ac).getD j (undef,0)).1] ((nZ p.ac).getD j (undef,0)).2 (0,0))
 cd:∀w,Fix p w->∀f,f<p.nf->p.cb f<w.heap.size/\∀i,i<p.len f->w.cell? ⟨p.cb f,i*4,none⟩=some (.int .u8 (p.ins f i).1)/\w.cell? ⟨p.cb f,i*4+1,none⟩=some (.int .u8 (p.ins f i).2.1)/\w.cell? ⟨p.cb f,i*4+2,none⟩=some (.int .u8 (p.ins f i).2.2.1)/\w.cell? ⟨p.cb f,i*4+3,none⟩=some (.int .u8 (p.ins f i).2.2.2)
 le:∀f,f<p.nf->p.len f<=200
def dZ.fix(h:dZ p s g w):Fix p w:=λb e=>(h.X b e).2
theorem Ga{k:Fn}{ka kc:Array Value}(bk:Nat×Nat×Nat×Nat)(u v:B.V)(h:dZ p s g w)(hP:PW p)(ht:ft s t)(J:(s.T t).lf=none)(i:f<p.nf)(hm:(s.T t).fr.length<=1000)(H:.func k ka kc=yx p g t (s.T t).fr.length bk):eN 119 #[P0 p.eb,P0<|g.tb t,ah f,vA u,vA v,.func k ka kc] w λw'=>∃fb rb r,Tr p s g w (s.push t ⟨f,0,iz u v,bk⟩) (g.push t (s.T t).fr.length fb rb r) w':=by
 have Z:=h.E;let⟨h1,h2⟩:=hP.tab w h.fix f i;have h0:w.cell? (az p.eb 0)=some (dD p.gb p.nf p.nf):=by
  rw[Z.cell 0 af];show some (p.E0 0)=_;rw[hP.e0]
 refine dq (Lp p.eb (g.tb t) p.gb p.nf (p.cb f) (p.len f) (p.rg f) f (s.T t).fr.length (g.ro 12 t).2 (g.ro 12 t).1 _ k ka kc u v (gH p s g t) w h0 h1 h2 (h.tk ht) rfl (h.row (x:=12) (y:=t) (by grind[fi])<|iM af ht) hm Z.lt (h.X _ hP.gb).1 i (hP.rg f i).1 (hP.rg f i).2) ?_;rintro w' ⟨Y,G,fb,rb,k1,k2,W,k4,k5,k6,k7⟩;refine⟨rfl,fb,rb,(some<|az Y 0,G),h.push (f:=⟨f,0,iz u v,bk⟩) ht J k1 k2 ?_ W.2.1 (k6.mono<|λk o _=>?_) k4 k5<|λk o=>?_⟩
 .rw[<-H];exact W.1
 .grind[kP]
 have e:Y=k:=by injection o
 grind[kP]
def Pl.back(s:Pl)(t:Nat)(v:B.V):Pl:=if de s t=0 then(s.pop t).leave t v 2 v.2 else(s.pop t).dM t (de s t-1) ((du s t<|de s t-1).set (du s t<|de s t).bk.2.1 v)
theorem xN(s:Pl)(t u:Nat):((s.pop t).T u).wh=(s.T u).wh/\((s.pop t).T u).lf=(s.T u).lf:=by
 by_cases e:u=t
 .subst e;unfold Pl.pop;rw[dk];exact⟨rfl,rfl⟩
 grind[Pl.pop,dU]
theorem LW.pop(h:LW s)(t:Nat):LW (s.pop t):=h.same rfl rfl (λu=>(xN s t u).1)
theorem WW.pop{p:dH}{s:Pl}(h:WW p s){t:Nat}(hw:(s.T t).wh=none):WW p (s.pop t):=by
 intro u G a b i o;rw[(xN s t u).1]at i;have e:u≠t:=λe=>by grind
 have y:(s.pop t).T u=s.T u:=dU _ _ e;have:=h u G a b i o;grind[gK]
theorem ui(s:Pl)(t:Nat):((s.pop t).T t).fr.length=(s.T t).fr.length-1:=by unfold Pl.pop;rw[dk];exact eY
theorem wV(v:B.V)(h:dZ p s g w)(hW:LW s)(aB:WW p s)(ht:ft s t)(aG:(s.T t).lf=none)(aE:(s.T t).wh=none)(aA:(s.T t).fr≠[])(hm:(s.T t).fr.length<=1000)(aD:t∈s.lv)(a9:s.lv.Nodup)(aF:∀u,u∈s.lv->ft s u)(ho:s.out.length=s.nt)(hk:s.kp.length<=1000000)(aC:s.ev.length<=100000)(a8:de s t≠0->(du s t<|de s t).bk.2.1<p.rg (du s t<|de s t-1).f):eN 107 #[P0<|g.tb t,vA v] w λw'=>∃g',Tr p s g w (s.back t v) g' w':=by
 have a4:(s.T t).fr.length≠0:=λe=>aA<|dh.1 e;obtain⟨m,a1⟩:∃m,(s.T t).fr.length=m+1:=⟨(s.T t).fr.length-1,af⟩;have H:de s t=m:=by unfold de;omega
 have hr:=h.row (x:=12) (y:=t) (by grind[fi])<|iM af ht;have hF:=h.fr ht (i:=m) af;let⟨kb,ck,he⟩:=ef hr (by grind[kC]);have a2:g.ro 12 t=(some<|az kb 0,ck):=by
  unfold sl at he;injection he with a b c;exact gh a c
 rw[he,kC,nI,a1,gr,gX,gX]at hr;have a7:gH p s g t 1=dD kb (m+1) ck:=by
  show sl s g 12 t=_;rw[he,kC,a1]
 have G:∀w2,O2 w w2 (g.tb t) kb ck m (((List.range m).map<|g.fb t).map P0) (gH p s g t)->Tr p s g w (s.pop t) g w2:=λw2 hp=>by
  obtain⟨k1,k2,k3⟩:=hp;refine h.pop ht aG a1 ?_ ?_<|k3.mono<|λk hk _=>?_
  .grind
  .grind
  rw[a2];exact hk.imp id (λe=>by rw[e];rfl)
 unfold Pl.back;rw[H];by_cases h0:m=0
 .rw[bf h0];have Y:yx p g t m (du s t m).bk=Fv 120 #[P0<|g.xe t,P0<|g.xt t]:=by unfold yx;rw[bf h0]
  unfold Am at hF;rw[Y]at hF;refine wW (g.tb t) kb ck m (g.fb t m) _ _ _ _ _ _ v _ _ (ag ⟨g.xe t,g.xt t,rfl,rfl,rfl⟩) _ (gH p s g t) (λw'=>∃g',Tr p s g w ((s.pop t).leave t v 2 v.2) g' w') w (h.tk ht) a7 af hr hF ?_;intro w2 a0;have W:=G w2 a0;have o:ft (s.pop t) t:=ht;have a5:=W.r.xe o;have a3:=W.r.xt o;refine I8 p.eb (g.tb t) (g.xe t) (g.xt t) v _ w2 (fj a5) (fj a3) (ch a5) (ch a3) ?_;intro w3 a6;refine dq (AN v 2 v.2 (W.r.kept a6) (hW.pop t) (aB.pop aE) o aD a9 aF ho hk aC) ?_;rintro w4 ⟨g',h4⟩;exact⟨rfl,g',(W.kept a6).trans h4⟩
 rw[av h0];have Y:yx p g t m (du s t m).bk=.func (.func 149) #[ee (du s t m).bk.1 (du s t m).bk.2.1 (du s t m).bk.2.2.1 (du s t m).bk.2.2.2 (g.fb t<|m-1) (g.tb t) p.eb] #[]:=by unfold yx;rw[av h0]
 unfold Am at hF;rw[Y]at hF;refine wW (g.tb t) kb ck m (g.fb t m) _ _ _ _ _ _ v _ _ (ak ⟨_,_,_,_,g.fb t<|m-1,p.eb,rfl,rfl,rfl⟩) _ (gH p s g t) (λw'=>∃g',Tr p s g w ((s.pop t).dM t (m-1)<|(du s t<|m-1).set (du s t m).bk.2.1 v) g' w') w (h.tk ht) a7 af hr hF ?_;intro w2 a0;have W:=G w2 a0;have o:ft (s.pop t) t:=ht;have J:du (s.pop t) t (m-1)=du s t (m-1):=qm s (λ_=>by omega);have hb:=a8 af;rw[H]at hb;refine dq (sQ (t:=t) (i:=m-1) (a:=(du s t m).bk.2.1) (du s t m).bk.1 (du s t m).bk.2.2.1 (du s t m).bk.2.2.2 (g.tb t) p.eb v W.r o (lD ui)<|eZ J hb) λw3 h3=>?_;rw[J]at h3;exact⟨rfl,g,W.trans h3⟩
def Nc{why:Nat}(hw:why<=8)(h:dZ p s g w)(hW:LW s)(o:WW p s)(ht:ft s t)(G:t∈s.lv)(H:s.lv.Nodup)(J:∀u,u∈s.lv->ft s u)(Z:s.out.length=s.nt)(Y:s.kp.length<=1000000)(y:s.ev.length<=100000):eN 187 #[P0 p.eb,P0<|g.tb t,ah why] w λw'=>∃g',Tr p s g w (s.leave t (0,-(why:Int)) 3 why) g' w':=by
 refine Nf p.eb (g.tb t) why hw _ w<|λw1 i=>?_;refine dq (AN (0,-(why:Int)) 3 why (h.kept i) hW o ht G H J Z Y y) ?_;rintro w2 ⟨g',W⟩;exact⟨rfl,g',W.ahead i⟩
def Gd(h:dZ p s g w)(hW:LW s)(o:WW p s)(ht:ft s t)(G:t∈s.lv)(H:s.lv.Nodup)(J:∀u,u∈s.lv->ft s u)(Z:s.out.length=s.nt)(Y:s.kp.length<=1000000)(y:s.ev.length<=100000):eN 172 #[P0 p.eb,P0<|g.tb t] w λw'=>∃g',Tr p s g w (s.leave t (0,-100) 4 0) g' w':=by
 refine Ge p.eb (g.tb t) _ w<|λw1 i=>?_;refine dq (AN (0,-100) 4 0 (h.kept i) hW o ht G H J Z Y y) ?_;rintro w2 ⟨g',W⟩;exact⟨rfl,g',W.ahead i⟩
def Pl.more(s:Pl):Pl:={s.new with out:=s.out++[(0,0)],lv:=s.lv++[s.nt+1]}
def eM.more(g:eM)(t tb xe xt:Nat)(r7 r6:Option Addr×Nat):eM:=((g.new t tb xe xt).at 7 0 r7).at 6 0 r6
def LW.mw(h:LW s)(e:∀u,u∈s.lv->ft s u):MW s:=⟨λx y o t ht=>(h.b x y o t ht).1,e,λt ht x y i=>(h.a t ht x y i).1⟩
theorem dZ.begin{w6:aa}{tb xe xt:Nat}{G i:Option Addr}{H J:Nat}(h:dZ p s g w)(hM:MW s)(ho:s.out.length=s.nt)(Y:LP w w6 p.eb tb xe xt s.out.length s.lv.length (sl s g 7 0) (sl s g 6 0) s.out ((s.lv.map g.tb).map P0) (iQ p s g) G i H J):Tr p s g w s.more (g.more (s.nt+1) tb xe xt (G,H) (i,J)) w6:=by
 have a6:ig s 6 0 0=true:=ji af;have a8:ig s 7 0 0=true:=ji af
 have aE:∀{t},ft s t->(g.more (s.nt+1) tb xe xt (G,H) (i,J)).tb t=g.tb t:=λh=>(oy (tb:=tb) (xe:=xe) (xt:=xt) g<|(λh=>by have:=h.2;omega) h).1;have a5:(g.more (s.nt+1) tb xe xt (G,H) (i,J)).tb (s.nt+1)=tb:=(mg g (s.nt+1) tb xe xt).1;have a1:(g.more (s.nt+1) tb xe xt (G,H) (i,J)).ro 6 0=(i,J):=tR _ _ _ _;have a0:(g.more (s.nt+1) tb xe xt (G,H) (i,J)).ro 7 0=(G,H):=(ma _ _ af).trans<|tR _ _ _ _;have a9:∀a b,¬(a=6/\b=0)->¬(a=7/\b=0)->(g.more (s.nt+1) tb xe xt (G,H) (i,J)).ro a b=(g.new (s.nt+1) tb xe xt).ro a b:=λa b h6 h7=>(ma _ _ h6).trans<|ma _ _ h7;have aD:eS s.more 6 0=s.lv.length+1:=by show(s.lv++[s.nt+1]).length=_;rw[db];rfl
 have aG:eS s.more 7 0=s.out.length+1:=by show(s.out++[(0,0)]).length=_;rw[db];rfl
 have aF:∀a b,a≠6->a≠7->eS s.more a b=eS s.new a b:=λa b h6 h7=>by unfold eS;simp only[av h6,av h7];rfl
 have a2:∀a b,a≠6->a≠7->sl s.more (g.more (s.nt+1) tb xe xt (G,H) (i,J)) a b=sl s.new (g.new (s.nt+1) tb xe xt) a b:=λa b h6 h7=>by
  grind[sl]
 have aN:∀t,gH p s.more (g.more (s.nt+1) tb xe xt (G,H) (i,J)) t=gH p s.new (g.new (s.nt+1) tb xe xt) t:=λt=>by
  funext j
  unfold gH;rw[a2 12 t af af,a2 5 t af af];rfl
 have aC:∀{x:Nat} {v':Value} {k:Nat},mu (fp w) (sl s g x 0) v'->v'.ownBlock=some k->fk (g.ro x 0).1=some k\/w.heap.size<=k:=λhm W=>by
  rcases hm with e|⟨g',e,aO⟩
  .grind[sl,dJ]
  grind
 have d6:∀k,fk i=some k->k≠tb/\k≠xe/\k≠xt:=λk W=>by
  let⟨_,_,cu,h1⟩:=dR Y.l k (by grind[dJ]);exact⟨eI h1 Y.t eo,eI h1 Y.y eo,Y.l3 k<|by grind[dJ]⟩
 have d7:∀k,fk G=some k->k≠tb/\k≠xe/\k≠xt/\fk i≠some k:=λk W=>by
  let⟨_,_,cu,h1⟩:=dR Y.o k (by grind[dJ]);refine⟨eI h1 Y.t eo,eI h1 Y.y eo,eI h1 Y.x eo,λe=>?_⟩;let⟨_,_,aP,h2⟩:=dR Y.l k (by grind[dJ]);grind
 have aB:∀a,a=5\/a=11\/a=12\/a=15\/a=16->ig s.more a (s.nt+1) 0=true:=λa ha=>iM ha ⟨af,bm _⟩;have a3:∀a,a=5\/a=12->sl s.more (g.more (s.nt+1) tb xe xt (G,H) (i,J)) a (s.nt+1)=.slice none 0 0/\eS s.more a (s.nt+1)=0/\gC s.more (g.more (s.nt+1) tb xe xt (G,H) (i,J)) a (s.nt+1)=[]/\(g.more (s.nt+1) tb xe xt (G,H) (i,J)).ro a (s.nt+1)=(none,0):=λa ha=>by
  have a4:=(a9 a _ af af).trans<|FZ g ha;have e1:eS s.more a (s.nt+1)=0:=by
   rcases ha with rfl|rfl
   .show(s.new.q 5<|s.nt+1).length=0;rw[ve];rfl
   show(s.new.T<|s.nt+1).fr.length=0;rw[mZ];rfl
  refine⟨?_,e1,?_,a4⟩
  .grind[sl]
  rcases ha with rfl|rfl
  .show((s.new.q 5<|s.nt+1).map _).map P0=[];rw[ve];rfl
  rw[nI];show((List.range (s.new.T<|s.nt+1).fr.length).map _).map P0=[];rw[mZ];rfl
 refine h.to (λa b c=>((a=0\/a=6\/a=7)/\b=0/\c=0)\/((a=5\/a=11\/a=12\/a=15\/a=16)/\b=s.nt+1/\c=0)) (λk=>if k=tb then(11,s.nt+1,0) else if k=xe then(15,s.nt+1,0) else if k=xt then(16,s.nt+1,0) else if fk i=some k then(6,0,0) else(7,0,0)) (Y.s.mono<|λk W _=>?_) (λa b c hC=>?_) (λa b c hC=>?_) (λa b c k hC W=>?_) (Nat.le_succ _)<|λu hu=>aE hu
 .rcases W with W|W|W
  .exact⟨0,0,0,ag ⟨ag rfl,rfl,rfl⟩,W⟩
  .refine⟨7,0,0,ag ⟨ak<|ak rfl,rfl,rfl⟩,?_⟩;rw[gW p g (by unfold fi;omega) a8];unfold sl at W;rw[dJ]at W;exact W
  refine⟨6,0,0,ag ⟨ak<|ag rfl,rfl,rfl⟩,?_⟩;rw[gW p g (by unfold fi;omega) a6];unfold sl at W;rw[dJ]at W;exact W
 .rw[<-Ku (p:=p) (g:=g) (tb:=tb) (xe:=xe) (xt:=xt) hM (λe=>hC<|ak e)];refine lK ((λa b c=>rfl) a b c)<|λhV=>mY hV ?_ (λ_=>⟨rfl,rfl,rfl⟩) (λ_=>⟨rfl,aN b⟩) (λ_=>⟨rfl,rfl⟩) (λ_=>⟨rfl,rfl⟩) (λ_=>rfl) (λ_=>⟨rfl,rfl⟩) (λ_=>⟨rfl,rfl⟩) ?_
  .intro ea;exact dr (ag ⟨ag ea,mx hV af⟩) hC
  intro ha;have ec:=sJ hV ha;have h6:a≠6:=λe=>hC<|ag ⟨ak<|ag e,(mx hV af).1,ec⟩;have h7:a≠7:=λe=>hC<|ag ⟨ak<|ak e,(mx hV af).1,ec⟩;exact⟨a9 a b (λe=>h6 e.1)<|λe=>h7 e.1,aF a b h6 h7,(λa b h6 h7=>by unfold gC;simp only[av h6,av h7];rfl) a b h6 h7⟩
 .rcases hC with⟨ha,rfl,rfl⟩|⟨ha,rfl,rfl⟩
  .rcases ha with rfl|rfl|rfl
   .refine Full.congr Y.e<|λj hj=>?_;have e6:Value.slice i (s.lv.length+1) J=sl s.more (g.more (s.nt+1) tb xe xt (G,H) (i,J)) 6 0:=by unfold sl;rw[a1,aD]
    have e7:Value.slice G (s.out.length+1) H=sl s.more (g.more (s.nt+1) tb xe xt (G,H) (i,J)) 7 0:=by unfold sl;rw[a0,aG]
    by_cases aA:j=29
    .subst aA;rw[gU,e6];rfl
    rw[eP _ _ _ _ aA];by_cases a7:j=30
    .subst a7;rw[gU,e7];rfl
    rw[eP _ _ _ _ a7];unfold iQ;by_cases q1:j<28
    .rw[bf q1,bf q1]
    rw[av q1,av q1];by_cases q2:j=28
    .rw[bf q2,bf q2];rfl
    rw[av q2,av q2];by_cases q3:j=42
    .rw[bf q3,bf q3];rfl
    rw[av q3,av q3];have hI:=vF j;have k6:(mr j).1≠6:=λe=>aA (vG j hj 29 af af q3 af af (gh e (by
     rcases hI.2.2.2 with e1|e1|e1
     .omega
     .omega
     exact e1)))
    have k7:(mr j).1≠7:=λe=>a7 (vG j hj 30 af af q3 af af (gh e (by
     rcases hI.2.2.2 with e1|e1|e1
     .omega
     .omega
     exact e1)))
    rw[a2 _ _ k6 k7];unfold sl;rw[xZ g (λe=>by have:=hI.2.1;have:=hI.2.2.1;omega)];have:eS s.new (mr j).1 (mr j).2=eS s (mr j).1 (mr j).2:=by
     unfold eS;rw[sf s (λe=>by have:=hI.2.1;omega)];simp only[av hI.2.2.1];rfl
    rw[this]
   .rw[iq (show ig s.more 6 0 0=true from ji af),im (by unfold fi;omega)];show w6.ownsRow 0 155 1 (.slice ((g.more (s.nt+1) tb xe xt (G,H) (i,J)).ro 6 0).1 (eS s.more 6 0) ((g.more (s.nt+1) tb xe xt (G,H) (i,J)).ro 6 0).2) (eS s.more 6 0) (((s.lv++[s.nt+1]).map (g.more (s.nt+1) tb xe xt (G,H) (i,J)).tb).map P0);rw[a1,aD,gX,gX];have e1:s.lv.map (g.more (s.nt+1) tb xe xt (G,H) (i,J)).tb=s.lv.map g.tb:=List.map_congr_left<|λt ht=>aE<|hM.b t ht;have e2:([s.nt+1].map (g.more (s.nt+1) tb xe xt (G,H) (i,J)).tb).map P0=[P0 tb]:=by show[P0 _]=_;rw[a5]
    rw[e1,e2];exact Y.l
   rw[iq (show ig s.more 7 0 0=true from ji af),im (by unfold fi;omega)];show w6.ownsRow 0 149 2 (.slice ((g.more (s.nt+1) tb xe xt (G,H) (i,J)).ro 7 0).1 (eS s.more 7 0) ((g.more (s.nt+1) tb xe xt (G,H) (i,J)).ro 7 0).2) (eS s.more 7 0) (ij<|s.out++[(0,0)]);rw[a0,aG,ri];exact Y.o
  rw[iq<|aB a ha];by_cases h5:a=5\/a=12
  .rw[im (by unfold fi;omega)];show w6.ownsRow 0 (Br a) (Bs a) (sl s.more (g.more (s.nt+1) tb xe xt (G,H) (i,J)) a<|s.nt+1) (eS s.more a<|s.nt+1) (gC s.more (g.more (s.nt+1) tb xe xt (G,H) (i,J)) a<|s.nt+1);let⟨e1,e2,e3,_⟩:=a3 a h5;rw[e1,e2,e3];exact eg w6 _ _ _
  have:a=11\/a=15\/a=16:=by omega
  rcases this with rfl|rfl|rfl
  .show Full w6 ((g.more (s.nt+1) tb xe xt (G,H) (i,J)).tb<|s.nt+1) 160 7 7 (gH p s.more (g.more (s.nt+1) tb xe xt (G,H) (i,J))<|s.nt+1);rw[a5];refine⟨_,Y.t,rfl,λj hj=>?_⟩;have hc:=pS 6 j af
   have hT:s.more.T (s.nt+1)=sP:=mZ s;repeat' rcases hc with rfl|hc
   .show some (Value.int .i64<|(s.out.length:Int)+1)=some (Value.int .i64 ((s.nt+1:Nat):Int));rw[ho];rfl
   .show some (Value.slice none 0 0)=some (sl s.more (g.more (s.nt+1) tb xe xt (G,H) (i,J)) 12<|s.nt+1);rw[(a3 12<|ak rfl).1]
   .show some (Value.bool false)=some (Value.bool (s.more.T<|s.nt+1).run);rw[hT];rfl
   .show some (Value.pointer none)=some (xp p _ (s.more.T<|s.nt+1).wh);rw[hT];rfl
   .show some Value.nilFunc=some (zD _ (s.nt+1) (s.more.T<|s.nt+1).lf);rw[hT];rfl
   .show some (Value.int .i64 0)=some (Value.int .i64 (s.more.T<|s.nt+1).iT);rw[hT];rfl
   show some (Value.slice none 0 0)=some (sl s.more (g.more (s.nt+1) tb xe xt (G,H) (i,J)) 5<|s.nt+1);rw[(a3 5<|ag rfl).1]
  .show w6.heap[(g.new (s.nt+1) tb xe xt).xe (s.nt+1)]?=_;rw[(mg g (s.nt+1) tb xe xt).2.1];exact Y.y
  show w6.heap[(g.new (s.nt+1) tb xe xt).xt (s.nt+1)]?=ny #[P0<|(g.new (s.nt+1) tb xe xt).tb<|s.nt+1] 155;rw[(mg g (s.nt+1) tb xe xt).2.2,(mg g (s.nt+1) tb xe xt).1];exact Y.x
 rcases hC with⟨ha,rfl,rfl⟩|⟨ha,rfl,rfl⟩
 .rcases ha with rfl|rfl|rfl
  .exact ag W
  .rw[gW p _ (by unfold fi;omega) (show ig s.more 6 0 0=true from ji af),a1]at W;rw[gW p g (by unfold fi;omega) a6];refine(aC Y.l2<|eZ dJ W).imp id<|λhl=>⟨hl,?_⟩;let⟨q1,q2,q3⟩:=d6 k W;rw[av q1,av q2,av q3,bf W]
  rw[gW p _ (by unfold fi;omega) (show ig s.more 7 0 0=true from ji af),a0]at W;rw[gW p g (by unfold fi;omega) a8];refine(aC Y.o2<|eZ dJ W).imp id<|λhl=>⟨hl,?_⟩;let⟨q1,q2,q3,q4⟩:=d7 k W;rw[av q1,av q2,av q3,av q4]
 rw[iq<|aB a ha]at W;by_cases h5:a=5\/a=12
 .rw[im (by unfold fi;omega)]at W;have Z:fk ((g.more (s.nt+1) tb xe xt (G,H) (i,J)).ro a<|s.nt+1).1=some k:=W;rw[(a3 a h5).2.2.2]at Z
  cases Z
 have:a=11\/a=15\/a=16:=by omega
 rcases this with rfl|rfl|rfl
 .have Z:k=(g.new (s.nt+1) tb xe xt).tb (s.nt+1):=W;rw[(mg g (s.nt+1) tb xe xt).1]at Z;subst Z;exact ak ⟨Y.n.1,bf rfl⟩
 .have Z:k=(g.new (s.nt+1) tb xe xt).xe (s.nt+1):=W;rw[(mg g (s.nt+1) tb xe xt).2.1]at Z;subst Z;exact ak ⟨Y.n.2.1,by rw[av<|eI Y.y Y.t eo,bf rfl]⟩
 have Z:k=(g.new (s.nt+1) tb xe xt).xt (s.nt+1):=W;rw[(mg g (s.nt+1) tb xe xt).2.2]at Z;subst Z;exact ak ⟨Y.n.2.2,by rw[av<|eI Y.x Y.t eo,av<|eI Y.x Y.y eo,bf rfl]⟩
theorem kZ:ft s.more t↔ft s t\/t=s.nt+1:=by
 show(1<=t/\t<=s.nt+1)↔(1<=t/\t<=s.nt)\/t=s.nt+1;omega
theorem qo{x y:Nat}:fQ s.more x y↔fQ s x y\/(x=5/\y=s.nt+1):=by
 grind[fQ,kZ]
theorem LW.more{s:Pl}(h:LW s)(hn:s.nt+1<=500000000):LW s.more:=by
 refine⟨λt ht x y o=>?_,λx y G t ht=>?_,λx y G=>?_,hn⟩
 .by_cases e:t=s.nt+1
  .subst e;have:(s.more.T<|s.nt+1).wh=none:=by show(s.new.T<|s.nt+1).wh=none;rw[mZ];rfl
   grind
  have i:=(kZ.1 ht).resolve_right e
  let⟨k1,k2,H⟩:=h.a t i x y (by rw[<-o];show _=(s.new.T t).wh;rw[ot s e]);refine⟨qo.2<|ag k1,?_,H⟩;show t∈s.new.q x y;rw[sf s (λe=>by have:=(nV k1 e.1).2;omega)];exact k2
 .have i:t∈s.new.q x y:=ht;by_cases e:x=5/\y=s.nt+1
  .grind[ve]
  rw[sf s e]at i;let⟨k1,k2⟩:=h.b x y ((qo.1 G).resolve_right e) t i;refine⟨kZ.2<|ag k1,?_⟩;show(s.new.T t).wh=_;rw[ot s<|gD k1.2];exact k2
 show(s.new.q x y).Nodup;grind[ve,List.nodup_nil,sf,F.LW.c,F.qo]
theorem rJ(s:Pl)(t:Nat)(f:jq)(u:Nat):((s.push t f).T u).wh=(s.T u).wh/\((s.push t f).T u).lf=(s.T u).lf:=by
 unfold Pl.push;by_cases e:u=t
 .subst e;rw[dk];exact⟨rfl,rfl⟩
 grind[dU]
theorem LW.push(h:LW s)(t:Nat)(f:jq):LW (s.push t f):=h.same rfl rfl (λu=>(rJ s t f u).1)
def Pl.born(s:Pl)(f:Nat)(u v:B.V):Pl:=(s.more.push (s.nt+1) ⟨f,0,iz u v,(0,0,0,0)⟩).dX 2 0<|s.nt+1
theorem Gz(u v:B.V)(h:dZ p s g w)(hP:PW p)(hW:LW s)(aC:s.lv.Nodup)(a7:∀u,u∈s.lv->ft s u)(ho:s.out.length=s.nt)(hf:f<p.nf)(hn:s.nt+1<=500000000):dC 60 #[P0 p.eb,ah f,vA u,vA v] w (ah ((s.nt+1:Nat):Int)) λw'=>∃g',Tr p s g w (s.born f u v) g' w'/\∀a i,ft s a->g'.fb a i=g.fb a i:=by
 have aE:=dQ (gR s.nt s.lv aC a7) hW.d;have Y:=h.row (x:=7) (y:=0) (by grind[fi])<|ji af;have Z:ft s.more (s.nt+1):=kZ.2<|ak rfl;have H:s.more.T (s.nt+1)=sP:=mZ s;refine LC p.eb f s.out.length s.lv.length (g.ro 7 0).2 (g.ro 6 0).2 (s.nt+1) (g.ro 7 0).1 (g.ro 6 0).1 u v s.out _ (iQ p s g)
  (λtb xt w7=>∃g7,Tr p s g w (s.more.push (s.nt+1) ⟨f,0,iz u v,(0,0,0,0)⟩) g7 w7/\g7.tb (s.nt+1)=tb/\g7.xt (s.nt+1)=xt/\∀a i,ft s a->g7.fb a i=g.fb a i)
  (λw9=>∃g',Tr p s g w (s.born f u v) g' w9/\∀a i,ft s a->g'.fb a i=g.fb a i) w h.E rfl rfl Y (h.row (x:=6) (y:=0) (by grind[fi])<|ji af) af af ?_ ?_
 .intro w6 tb xe xt J W G a0 hA;have h3:=h.begin (hW.mw a7) ho hA;have a2:(g.more (s.nt+1) tb xe xt (J,G) (W,a0)).tb (s.nt+1)=tb:=(mg g (s.nt+1) tb xe xt).1;have a5:(g.more (s.nt+1) tb xe xt (J,G) (W,a0)).xe (s.nt+1)=xe:=(mg g (s.nt+1) tb xe xt).2.1;have a3:(g.more (s.nt+1) tb xe xt (J,G) (W,a0)).xt (s.nt+1)=xt:=(mg g (s.nt+1) tb xe xt).2.2;have o:=Ga (t:=s.nt+1) (f:=f) (k:=.func 120) (ka:=#[]) (kc:=#[P0 xe,P0 xt]) (0,0,0,0) u v h3.r hP Z (kh H) hf (by rw[H];exact di _) (by
   rw[H];show _=Fv 120 #[P0 _,P0 _];grind)
  rw[a2]at o;refine dq o ?_;rintro w7 ⟨fb,rb,r,Y⟩;have a6:((g.more (s.nt+1) tb xe xt (J,G) (W,a0)).push (s.nt+1) (s.more.T<|s.nt+1).fr.length fb rb r).tb (s.nt+1)=tb:=a2;have a1:=Y.r.xt (t:=s.nt+1) Z;refine⟨rfl,⟨_,h3.trans Y,a2,a3,λa i ha=>?_⟩,?_,?_,Y.r.E.lt⟩
  .exact(rK _ (λe=>by have:=ha.2;omega)).1
  .rw[a6]at a1;rw[<-a3];exact a1
  rw[<-a5];exact Y.r.xe (t:=s.nt+1) Z
 rintro tb xt w7 w8 ⟨g7,Y,rfl,rfl,aB⟩ aA;have a8:ft (s.more.push (s.nt+1) ⟨f,0,iz u v,(0,0,0,0)⟩) (s.nt+1):=Z;have o:=wS (x:=2) (y:=0) (t:=s.nt+1) (Y.r.kept aA) ((hW.more hn).push _ _) (ag ⟨rfl,rfl⟩) a8 af (by rw[(rJ _ _ _ _).1,H];intro e;cases e);refine dq o ?_;rintro w9 ⟨r,h9⟩;have a4:ft ((s.more.push (s.nt+1) ⟨f,0,iz u v,(0,0,0,0)⟩).dX 2 0<|s.nt+1) (s.nt+1):=(eB<|iO _ _ _ _).2 a8;exact⟨rfl,⟨_,(Y.kept aA).trans h9,aB⟩,(h9.r.tk a4).cell 0 af,h9.r.xt a4⟩
end F
namespace F
variable {g:eM}{p:dH}{s:Pl}{w:aa}
def qA(p:dH)(s:Pl)(g:eM)(w:aa):Prop:=∀x y z,x≠1->(ob p s g x y z).ok w
def tU(p:dH)(s:Pl)(g:eM)(k:Nat):Prop:=∃x y z,x≠1/\(ob p s g x y z).bs k
theorem dZ.q(h:dZ p s g w):qA p s g w:=λx y z _=>h.o x y z
theorem qA.lt{p:dH}{s:Pl}{g:eM}{w:aa}(h:qA p s g w){k:Nat}(e:tU p s g k):k<w.heap.size:=by
 obtain⟨x,y,z,i,e⟩:=e;exact(ob p s g x y z).lt w k (h x y z i) e
theorem qA.block{w':aa}(h:qA p s g w)(i:∀k,tU p s g k->w'.heap[k]?=w.heap[k]?):qA p s g w':=
 λx y z e=>(ob p s g x y z).fr w w' (h x y z e)<|λk o=>i k ⟨x,y,z,e,o⟩
section
variable {p:dH}{s:Pl}{g:eM}{w:aa} (h:qA p s g w)
include h
theorem qA.E:Full w p.eb 144 44 44 (iQ p s g):=h 0 0 0 af
theorem qA.row{x y:Nat}(hx:fi x)(e:ig s x y 0=true):w.ownsRow 0 (Br x) (Bs x) (sl s g x y) (eS s x y) (gC s g x y):=by
 have:=h x y 0 (by grind[fi]);rw[iq e,im hx]at this;exact this
theorem qA.tk{t:Nat}(ht:ft s t):Full w (g.tb t) 160 7 7 (gH p s g t):=by
 have:=h 11 t 0 af;rw[iq<|iM af ht]at this;exact this
theorem qA.fr{t i:Nat}(ht:ft s t)(hi:i<(s.T t).fr.length):w.heap[g.fb t i]?=some (Am p g t i<|du s t i):=by
 have:=h 13 t i af;rw[iq<|pz af ht hi]at this;exact this
theorem qA.rg{t i:Nat}(ht:ft s t)(hi:i<(s.T t).fr.length):Full w (g.rb t i) 149 (p.rg (du s t i).f*2) (p.rg (du s t i).f*2) (eR (du s t i).R):=by
 have:=h 14 t i af;rw[iq<|pz af ht hi]at this;exact this
end
variable {g:eM}{p:dH}{s:Pl}{w:aa}
def vt(p:dH)(s:Pl)(t k:Nat):List B.V:=(List.range k).flatMap<|λi=>B.jm (du s t i).R<|p.rg (du s t i).f
theorem wY(p:dH)(s:Pl)(t k:Nat):vt p s t (k+1)=vt p s t k++B.jm (du s t k).R (p.rg (du s t k).f):=by
 grind[vt,List.range_succ]
def uF(p:dH)(s:Pl)(t:Nat):List B.V:=vt p s t (s.T t).fr.length
def zB(p:dH)(s:Pl)(l:List Nat):List B.V:=l.flatMap<|uF p s
def eH(p:dH)(s:Pl):List B.V:=zB p s s.lv++s.kp
theorem jJ{w0:aa}{cb i sb n:Nat}{ad:Option Addr}{c:B.Cy}{l o:List B.V}(h:yB w0 w cb i sb n ad c l)(e:l=o):yB w0 w cb i sb n ad c o:=by grind
theorem G5{t:Nat}(ht:ft s t)(cb rd sb n:Nat)(ad:Option Addr)(c:B.Cy)(l0:List B.V)(w0 w:aa)(hQ:qA p s g w0)(hd:∀k,tU p s g k->¬pr cb rd ad k)(hV:yB w0 w cb rd sb n ad c l0)(hn:n<=200)(hs:c.st.length+B.jW c.m n<=n)(a5:∀v,v∈l0->v.1≠0->v.1<=n)(hR:∀v,v∈uF p s t->v.1≠0->v.1<=n)(hm:(s.T t).fr.length<=1000)(aA:∀i,i<(s.T t).fr.length->p.rg (du s t i).f<=8):Calls prog 118 #[P0<|g.tb t,.func (.func 188) #[P0 cb] #[]] w λe w'=>e=.returned (.tuple #[])/\yB w0 w' cb rd sb n ad c (l0++uF p s t):=by
 have KA:Hid (∀w',dN (pr cb rd ad) w0 w'->qA p s g w'):=λw' h=>hQ.block<|λk hk=>h.same (hQ.lt hk)<|hd k hk;have HR:=bj hR;have aJ:=bj a5;have HV:=bj hV;have aH:=bj hs;have aE:=bj aA;have HT:=bj ht;have hw:=KA w HV.1;have c1:=(hw.tk ht).cell 1 af;have a6:gH p s g t 1=.slice (g.ro 12 t).1 (s.T t).fr.length (g.ro 12 t).2:=rfl;rw[a6]at c1;have o:=hw.row (x:=12) (y:=t) (by grind[fi])<|iM af ht;have H:(s.T t).fr.length≠0->∃W Y,g.ro 12 t=(some ⟨W,0,none⟩,Y):=λG=>by
  grind[ef,kC,sl,Prod.ext]
 clear hw o hQ hd hR a5 hV hs aA ht a6;by_cases G:(s.T t).fr.length=0
 .rw[G]at c1;have HH:Hid (uF p s t=[]):=by show _=_;unfold uF;rw[G];rfl
  generalize (g.ro 12 t).1=ka at*;generalize (g.ro 12 t).2=kc at*;clear H G;go_in;go_wp2_with fail
  go_loopw[13] (λi wr=>i=.int .i64 0/\wr=w) (λ_ _=>0)
  case atStart=>grind
  case round=>
   obtain⟨rfl,rfl⟩:=hrel;go_wp2_with fail
   go_end0;exact⟨rfl,jJ HV<|by rw[HH.out,gY]⟩
 let⟨W,Y,a0⟩:=H G;rw[a0]at c1;have aC:w.cell? ⟨g.tb t,1,none⟩=some (.slice (some ⟨W,0,none⟩) (s.T t).fr.length Y):=c1;have aD:=bj a0;generalize a9:(s.T t).fr.length=m at*;have J:=bj a9;clear H G c1 a0 a9;go_in;go_wp2_with fail
 go_loopw[13] (λi wr=>∃k:Nat,k<=m/\i=.int .i64 k/\Hid (yB w0 wr cb rd sb n ad c<|l0++vt p s t k)) (λi _=>m-(intOf i).toNat)
 case atStart=>grind[jJ,vt]
 case round=>
  obtain⟨k,hk,rfl,hX⟩:=hrel;by_cases Z:k<m
  .have hw:=KA _ hX.1;have a1:k<(s.T t).fr.length:=eZ J.out Z
   have o:=hw.row (x:=12) (y:=t) (by grind[fi])<|iM af HT;have a2:wr.ownsRow 0 184 1 (.slice (some ⟨W,0,none⟩) m Y) m (((List.range m).map<|g.fb t).map P0):=by
    have e1:sl s g 12 t=.slice (some ⟨W,0,none⟩) m Y:=by unfold sl;rw[aD.out,kC,J.out]
    rw[e1,kC,nI,J.out]at o;exact o
   have d5:wr.cell? ⟨W,k,none⟩=some (P0<|g.fb t k):=(ik a2).2.2.2.2.2 k _ (by simp[Z]);let⟨_,_,f2,_,_⟩:=jy<|hw.fr HT a1;have aM:=aE k Z;have aN:(k:Int)<m:=af
   have aK:=bj<|wY p s t k;have aB:Hid (∀w',dN (pr cb rd ad) w0 w'->Full w' (g.rb t k) 149 (p.rg (du s t k).f*2) (p.rg (du s t k).f*2) (eR (du s t k).R)):=λw' ho=>(KA w' ho).rg HT a1;have a7:Hid (∀v,v∈vt p s t k++B.jm (du s t k).R (p.rg (du s t k).f)->v.1≠0->v.1<=n):=λv u=>HR v (by
    unfold uF;rw[J.out];rw[<-wY]at u;unfold vt at u⊢;rw[List.mem_flatMap]at u⊢;obtain⟨i,hi,u⟩:=u;exact⟨i,fY.2 (by have:=fY.1 hi;omega),u⟩)
   generalize p.rg (du s t k).f=nr at*;generalize (du s t k).R=R at*;clear hw o a2 aC;go_wp2_with fail
   go_loopw[22] (λi aI=>∃j:Nat,j<=nr/\i=.int .i64 j/\Hid (yB w0 aI cb rd sb n ad c<|l0++vt p s t k++B.jm R j)) (λi _=>nr-(intOf i).toNat)
   case atStart=>exact⟨0,af,rfl,jJ hX<|by simp[B.jm]⟩
   case round=>
    obtain⟨j,hj,rfl,a3⟩:=hrel;by_cases a8:j<nr
    .have hF:=aB _ a3.1;have r0:=hF.cell (j*2) af;have r1:=hF.cell (j*2+1) af;rw[pF]at r0;rw[pE]at r1;clear hF;have aO:(j:Int)<nr:=af
     go_wp2_with fail
     refine(yD (R j) (a3.kept<|aj _ _ _) hn aH (λv u G=>?_)<|λG=>a7 (R j) (List.mem_append_right _<|B.mm.2 ⟨j,a8,rfl⟩) G).mono ?_
     .rw[fU,ed]at u;rcases u with u|u
      .exact aJ v u G
      refine a7 v ?_ G;rw[ed]at u⊢;refine u.imp id<|λu=>?_;obtain⟨i,hi,rfl⟩:=B.mm.1 u;exact B.mm.2 ⟨i,af,rfl⟩
     rintro e w5 ⟨rfl,a4⟩;have aF:=bj a4;clear a4 r0 r1;go_wp2_with fail
     go_roundw
     case rel=>
      first|exact⟨j+1,af,iI,by show yB _ _ _ _ _ _ _ _ (l0++vt p s t k++B.jm R (j+1));rw[B.CP,<-fU];exact aF⟩|trace_state
     case measure=>simp[intOf];omega
    obtain rfl:j=nr:=by omega
    go_wp2_with fail
    go_roundw
    case rel=>exact⟨k+1,af,iI,jJ a3<|by rw[aK.out,fU]⟩
    case measure=>simp[intOf];omega
  obtain rfl:k=m:=by omega
  go_wp2_with fail
  go_end0;exact⟨rfl,jJ hX (by unfold uF;rw[J.out])⟩
theorem CQ(l:List B.V):B.jm (λi=>l.getD i (0,0)) l.length=l:=by
 apply List.ext_getElem?
 grind[B.jm,List.getElem?_range,List.getElem?_eq_getElem,List.getElem?_eq_none]
theorem Fo(p:dH)(s:Pl)(l:List Nat)(t:Nat):zB p s (l++[t])=zB p s l++uF p s t:=by
 grind[zB]
def wH{α:Type}(l:List α)(k:Nat)(x:α)(h:l[k]?=some x):l.take (k+1)=l.take k++[x]:=by
 rw[List.take_add_one,h];rfl
theorem N2(h:qA p s g w)(a0:∀u,u∈s.lv->ft s u)(b3:s.lv.length<=1000000000)(aZ:s.kp.length<=1000000)(aF:∀u,u∈s.lv->(s.T u).fr.length<=1000)(aM:∀u,u∈s.lv->∀i,i<(s.T u).fr.length->p.rg (du s u i).f<=8):LY (tU p s g) w p.eb (eH p s).length (λi=>(eH p s).getD i (0,0)):=by
 intro w1 cb rd sb n ad cap c hk hC hQ hn hs hR;rw[CQ];have a1:∀v,v∈eH p s->v.1≠0->v.1<=n:=λv Y h0=>by
  obtain⟨i,hi,rfl⟩:=List.mem_iff_getElem.1 Y;grind
 have J:=h.block hk;have KA:Hid (∀w',dN (pr cb rd ad) w1 w'->qA p s g w'):=λw' h=>J.block<|λk hk=>h.same (J.lt hk)<|hQ k hk;have aS:=bj<|G3 hC;have aU:=bj hs;have aR:Hid (∀t,t∈s.lv->∀(l0:List B.V) (w':aa),yB w1 w' cb rd sb n ad c l0->(∀v,v∈l0->v.1≠0->v.1<=n)->eN 118 #[P0<|g.tb t,.func (.func 188) #[P0 cb] #[]] w' λw2=>yB w1 w2 cb rd sb n ad c<|l0++uF p s t):=λt ht l0 w' hV aT=>
  G5 (a0 t ht) cb rd sb n ad c l0 w1 w' J hQ hV hn hs aT (λv Y=>a1 v<|by grind[eH,zB]) (aF t ht) (aM t ht)
 have aW:Hid (∀k v,v∈zB p s (s.lv.take k)->v.1≠0->v.1<=n):=λk v Y=>a1 v (by
  unfold zB at Y;unfold eH zB;rw[List.mem_flatMap]at Y;obtain⟨t,ht,Y⟩:=Y;rw[ed,List.mem_flatMap];exact ag ⟨t,List.mem_of_mem_take ht,Y⟩)
 have aD:Hid (∀j v,v∈zB p s s.lv++s.kp.take j->v.1≠0->v.1<=n):=λj v Y=>a1 v (by
  unfold eH;rw[ed]at Y⊢;exact Y.imp id List.mem_of_mem_take)
 have aN:=J.E.cell 29 af;have aC:iQ p s g 29=.slice (g.ro 6 0).1 s.lv.length (g.ro 6 0).2:=rfl;rw[aC]at aN;go_in;go_wp2_with fail
 generalize W:(g.ro 6 0).1=la at*;generalize aK:(g.ro 6 0).2=lc at*;generalize aI:s.lv.length=ln at*;have a4:=bj<|bh W<|bh aK aI;go_loopw[13] (λi wr=>∃k:Nat,k<=ln/\i=ah k/\Hid (yB w1 wr cb rd sb n ad c<|zB p s<|s.lv.take k)) (λi _=>ln-(intOf i).toNat)
 case atStart=>exact⟨0,af,rfl,jJ aS<|by simp[zB]⟩
 case round=>
  obtain⟨k,hk,rfl,hX⟩:=hrel;by_cases a0:k<ln
  .have hw:=KA _ hX.1;have G:=hw.row (x:=6) (y:=0) (by unfold fi;omega)<|ji af;have H:eS s 6 0=ln:=a4.2.2;let⟨lb,a7,he⟩:=ef G<|lD H;have W:la=some (az lb 0):=by
    unfold sl at he;injection he with a b c;rw[<-a4.1];exact a
   obtain⟨t,a5⟩:∃t,s.lv[k]?=some t:=⟨_,bw<|eZ a4.2.2 a0⟩;have a6:=eh a5;rw[he,H]at G;have o:wr.ownsRow 0 155 1 (dD lb ln a7) ln ((s.lv.map g.tb).map P0):=G;have d5:dW wr lb k=some (P0<|g.tb t):=(ik o).2.2.2.2.2 k _ (by simp[a5]);subst W;have b0:(k:Int)<(ln:Int):=af
   have a2:Hid (zB p s (s.lv.take<|k+1)=zB p s (s.lv.take k)++uF p s t):=by show _=_;rw[wH _ _ _ a5,Fo]
   have aA:=bj a6;go_wp2_with fail
   refine dq (aR t aA _ _ hX<|aW k) λw5 Z=>?_;have a8:=bj Z;go_wp2
   go_roundw
   case rel=>exact⟨k+1,af,iI,jJ a8 a2.symm⟩
   case measure=>simp[intOf];omega
  obtain rfl:k=ln:=by omega
  have hw:=KA _ hX.1;have aQ:=hw.E.cell 31 af;have aG:iQ p s g 31=.slice (g.ro 8 0).1 s.kp.length (g.ro 8 0).2:=rfl;rw[aG]at aQ;have aP:=bj<|jJ hX (by rw[<-a4.2.2,List.take_length]);generalize aJ:(g.ro 8 0).1=ka at*;generalize aE:(g.ro 8 0).2=kc at*;generalize aH:s.kp.length=kn at*;have a3:=bj<|bh aJ<|bh aE aH;go_wp2
  go_loopw[26] (λi aV=>∃j:Nat,j<=kn/\i=ah j/\Hid (yB w1 aV cb rd sb n ad c<|zB p s s.lv++s.kp.take j)) (λi _=>kn-(intOf i).toNat)
  case atStart=>exact⟨0,af,rfl,jJ aP eG⟩
  case round=>
   obtain⟨j,hj,rfl,a9⟩:=hrel;by_cases aL:j<kn
   .have hw:=KA _ a9.1;have G:=hw.row (x:=8) (y:=0) (by unfold fi;omega)<|ji af;have H:eS s 8 0=kn:=a3.2.2;let⟨lb,a7,he⟩:=ef G<|lD H;have W:ka=some (az lb 0):=by
     unfold sl at he;injection he with a b c;rw[<-a3.1];exact a
    obtain⟨v,aB⟩:∃v,s.kp[j]?=some v:=⟨_,bw<|eZ a3.2.2 aL⟩;rw[he,H]at G;have o:wr.ownsRow 0 149 2 (dD lb kn a7) kn (ij s.kp):=G;let⟨r0,r1⟩:=(rY o).2.2.2.2.2 j v aB;subst W;have b4:(j:Int)<(kn:Int):=af
    have a2:Hid (zB p s s.lv++s.kp.take (j+1)=zB p s s.lv++s.kp.take j++[v]):=by show _=_;rw[wH _ _ _ aB,fU]
    have aA:=bj<|aD (j+1) v (by rw[a2.out];simp);go_wp2_with fail
    refine dq (yD v (a9.kept<|aj _ _ _) hn aU (aD j) aA) λw5 Z=>?_;have a8:=bj Z;go_wp2
    go_roundw
    case rel=>exact⟨j+1,af,iI,jJ a8 a2.symm⟩
    case measure=>simp[intOf];omega
   obtain rfl:j=kn:=by omega
   go_wp2
   go_end0;exact⟨rfl,jJ a9 (by unfold eH;rw[<-a3.2.2,List.take_length])⟩
end F
namespace F
structure In(s:Pl) (t:Nat):Prop where
 ht:ft s t
 hi:de s t<(s.T t).fr.length
abbrev bz(s:Pl)(t:Nat):jq:=du s t<|de s t
abbrev mU(p:dH)(s:Pl)(g:eM)(t:Nat)(k:Nat×Nat×Nat×Nat):Value:=ee k.1 k.2.1 k.2.2.1 k.2.2.2 (g.fb t<|de s t) (g.tb t) p.eb
section
variable {p:dH}{s:Pl}{g:eM}{w:aa}{t:Nat} (h:dZ p s g w)(hI:In s t)
include h hI
theorem In.set{w':aa}{a:Nat}{v:B.V}(e:w.grownBy w' (some<|g.rb t<|de s t))(i:Fr w' (g.fb t<|de s t) (p.cb (bz s t).f) (p.len (bz s t).f) (bz s t).nx (g.rb t<|de s t) (p.rg (bz s t).f) (yx p g t (de s t) (bz s t).bk) (B.set (bz s t).R a v)):Tr p s g w (s.dM t (de s t)<|(bz s t).set a v) g w':=
 Pg (f:=(bz s t).set a v) h hI.ht hI.hi rfl rfl i (jL e<|ak rfl)
theorem In.next{w':aa}{y:Nat}(e:w.grownBy w' (some<|g.fb t<|de s t))(i:Fr w' (g.fb t<|de s t) (p.cb (bz s t).f) (p.len (bz s t).f) y (g.rb t<|de s t) (p.rg (bz s t).f) (yx p g t (de s t) (bz s t).bk) (bz s t).R):Tr p s g w (s.dM t (de s t) {bz s t with nx:=y}) g w':=
 Pg (f:={bz s t with nx:=y}) h hI.ht hI.hi rfl rfl i (jL e<|ag rfl)
theorem In.fr:Fr w (g.fb t<|de s t) (p.cb (bz s t).f) (p.len (bz s t).f) (bz s t).nx (g.rb t<|de s t) (p.rg (bz s t).f) (yx p g t (de s t) (bz s t).bk) (bz s t).R:=h.Fr hI.ht hI.hi
theorem In.a(op a b c:Nat)(tb eb:Nat)(o:a<p.rg (bz s t).f):∀w1,w.grownBy w1 none->dC 98 #[ee op a b c (g.fb t<|de s t) tb eb] w1 (vA<|(bz s t).R a) λw'=>w1.grownBy w' none:=λw1 u=>by
 have i:=(h.kept u).Fr hI.ht hI.hi;exact Ch op a b c _ tb eb _ _ _ _ _ _ _ w1 i.1 i.2.1 o
theorem In.b(op a b c:Nat)(tb eb:Nat)(o:b<p.rg (bz s t).f):∀w1,w.grownBy w1 none->dC 86 #[ee op a b c (g.fb t<|de s t) tb eb] w1 (vA<|(bz s t).R b) λw'=>w1.grownBy w' none:=λw1 u=>by
 have i:=(h.kept u).Fr hI.ht hI.hi;exact sA op a b c _ tb eb _ _ _ _ _ _ _ w1 i.1 i.2.1 o
theorem In.c(op a b c:Nat)(tb eb:Nat)(o:c<p.rg (bz s t).f):∀w1,w.grownBy w1 none->dC 94 #[ee op a b c (g.fb t<|de s t) tb eb] w1 (vA<|(bz s t).R c) λw'=>w1.grownBy w' none:=λw1 u=>by
 have i:=(h.kept u).Fr hI.ht hI.hi;exact tP op a b c _ tb eb _ _ _ _ _ _ _ w1 i.1 i.2.1 o
end
variable {g:eM}{op t:Nat}{p:dH}{s:Pl}{w:aa}
theorem PW.box(hP:PW p)(hX:Fix p w){j:Nat}(i:j<32){v:Value}{T:TypeId}(e:(nZ p.ac).getD j (undef,0)=(v,T)):w.cell? (az (p.ac+j) 0)=some v/\w.heap[p.ac+j]?=some (.cells #[v] T (0,0)):=by
 grind[F.PW.bx]
def qS(s:Pl)(t a:Nat)(x:Int):Pl:=s.dM t (de s t)<|(bz s t).set a (0,x)
def i0{a b c:Nat}(h:dZ p s g w)(hP:PW p)(hI:In s t)(y:a<p.rg (bz s t).f)(G:b<256)(u:c<256):dC 163 #[mU p s g t (op,a,b,c),P0<|p.ac+1] w (ah 0) λw'=>Tr p s g w (qS s t a<|B.wide b c) g w':=by
 have i:=hP.box h.fix (j:=1) af rfl;have o:=hP.box h.fix (j:=0) af rfl;refine dq (GL op a b c _ _ _ _ _ _ _ _ (p.ac+1) p.ac _ _ G u y w (In.fr h hI) (ch i.2) i.1 o.1<|ch o.2) ?_;rintro w' ⟨k1,k2⟩;exact⟨rfl,In.set h hI k1 k2⟩
theorem i1{a b c:Nat}(h:dZ p s g w)(hP:PW p)(hI:In s t)(u:a<p.rg (bz s t).f)(y:b<p.rg (bz s t).f):dC 163 #[mU p s g t (op,a,b,c),P0<|p.ac+3] w (ah 0) λw'=>Tr p s g w (s.dM t (de s t)<|(bz s t).set a<|(bz s t).R b) g w':=by
 have i:=hP.box h.fix (j:=3) af rfl;have o:=hP.box h.fix (j:=2) af rfl;refine dq (A6 op a b c _ _ _ _ _ _ _ _ (p.ac+3) (p.ac+2) _ _ _ u w (In.fr h hI) i.1 o.1 (ch i.2) (ch o.2)<|In.b h hI op a b c _ _ y) ?_;grind[In.set]
def i6{a b c:Nat}(h:dZ p s g w)(hP:PW p)(hI:In s t)(y:a<p.rg (bz s t).f)(G:b<p.rg (bz s t).f)(u:c<p.rg (bz s t).f):dC 163 #[mU p s g t (op,a,b,c),P0<|p.ac+9] w (ah 0) λw'=>Tr p s g w (qS s t a (if(bz s t).R b=(bz s t).R c then 1 else 0)) g w':=by
 have i:=hP.box h.fix (j:=9) af rfl;have o:=hP.box h.fix (j:=8) af rfl;refine dq (A5 op a b c _ _ _ _ _ _ _ _ (p.ac+9) (p.ac+8) _ _ _ y w (In.fr h hI) i.1 o.1 (ch i.2) (ch o.2)<|λw1 H=>EM op a b c _ _ _ _ _ _ _ _ _ _ G u w1<|In.fr (h.kept H) hI) ?_;rintro w' ⟨k1,k2⟩;exact⟨rfl,In.set h hI k1 k2⟩
theorem i7{a b c:Nat}(h:dZ p s g w)(hP:PW p)(hI:In s t)(y:b<256)(u:c<256):dC 163 #[mU p s g t (op,a,b,c),P0<|p.ac+11] w (ah 0) λw'=>Tr p s g w (s.dM t (de s t) {bz s t with nx:=256*b+c}) g w':=by
 have i:=hP.box h.fix (j:=11) af rfl;have o:=hP.box h.fix (j:=10) af rfl;refine dq (A4 op a b c _ _ _ _ _ _ _ _ (p.ac+11) (p.ac+10) _ _ true (256*b+c) rfl y u w (In.fr h hI) i.1 o.1 (ch i.2) (ch o.2) (λw1 _=>Eg op a b c _ _ _ w1)) ?_;grind[In.next]
theorem i8{a b c:Nat}(h:dZ p s g w)(hP:PW p)(hI:In s t)(y:a<p.rg (bz s t).f)(G:b<256)(u:c<256):dC 163 #[mU p s g t (op,a,b,c),P0<|p.ac+13] w (ah 0) λw'=>Tr p s g w (s.dM t (de s t) {bz s t with nx:=if(bz s t).R a=(0,0) then 256*b+c else(bz s t).nx}) g w':=by
 have i:=hP.box h.fix (j:=13) af rfl;have o:=hP.box h.fix (j:=12) af rfl;refine dq (A3 op a b c _ _ _ _ _ _ _ _ (p.ac+13) (p.ac+12) _ _ (decide ((bz s t).R a=(0,0))) (if(bz s t).R a=(0,0) then 256*b+c else(bz s t).nx) (by show _=_;grind) G u w (In.fr h hI) i.1 o.1 (ch i.2) (ch o.2)<|λw1 H=>D3 op a b c _ _ _ _ _ _ _ _ _ _ y w1<|In.fr (h.kept H) hI) ?_;grind[In.next]
def arith(o:Nat)(x y:Int):Int:=if o=2 then B.wrap (x+y) else if o=3 then B.wrap (x-y) else if o=4 then B.wrap (x*y) else tJ x y
def G4(s:Pl)(t b c:Nat):Prop:=((bz s t).R b).1=0/\((bz s t).R c).1=0
def i25{o a b c:Nat}(op:Nat)(h:dZ p s g w)(hP:PW p)(hI:In s t)(H:o=2\/o=3\/o=4\/o=5)(y:a<p.rg (bz s t).f)(G:b<p.rg (bz s t).f)(u:c<p.rg (bz s t).f):Calls prog 151 #[mU p s g t (op,a,b,c),P0<|p.ac+(o+2)] w λe w'=>(G4 s t b c/\e=.returned (ah 0)/\Tr p s g w (qS s t a<|arith o ((bz s t).R b).2 ((bz s t).R c).2) g w')\/(¬G4 s t b c/\e=.returned (ah 1)/\w.grownBy w' none):=by
 rcases H with rfl|rfl|rfl|rfl
 .have i:=hP.box h.fix (j:=4) af rfl;refine(GK op a b c _ _ _ _ _ _ _ _ (p.ac+4) _ _ y G u w (In.fr h hI) i.2).mono ?_;rintro e w' (⟨k0,rfl,k1,k2⟩|⟨k0,rfl,k1⟩)
  .exact ag ⟨k0,rfl,In.set h hI k1 k2⟩
  exact ak ⟨k0,rfl,k1⟩
 .have i:=hP.box h.fix (j:=5) af rfl;refine(GJ op a b c _ _ _ _ _ _ _ _ (p.ac+5) _ _ y G u w (In.fr h hI) i.2).mono ?_;rintro e w' (⟨k0,rfl,k1,k2⟩|⟨k0,rfl,k1⟩)
  .exact ag ⟨k0,rfl,In.set h hI k1 k2⟩
  exact ak ⟨k0,rfl,k1⟩
 .have i:=hP.box h.fix (j:=6) af rfl;refine(GI op a b c _ _ _ _ _ _ _ _ (p.ac+6) _ _ y G u w (In.fr h hI) i.2).mono ?_;rintro e w' (⟨k0,rfl,k1,k2⟩|⟨k0,rfl,k1⟩)
  .exact ag ⟨k0,rfl,In.set h hI k1 k2⟩
  exact ak ⟨k0,rfl,k1⟩
 have i:=hP.box h.fix (j:=7) af rfl;refine(GH op a b c _ _ _ _ _ _ _ _ (p.ac+7) _ _ y G u w (In.fr h hI) i.2).mono ?_;rintro e w' (⟨k0,rfl,k1,k2⟩|⟨k0,rfl,k1⟩)
 .exact ag ⟨k0,rfl,In.set h hI k1 k2⟩
 exact ak ⟨k0,rfl,k1⟩
end F
namespace F
variable {g:eM}{k op t u:Nat}{p:dH}{s:Pl}{w:aa}
def Tr.ux{s':Pl}{g':eM}{w1 w':aa}(h:dZ p s g w)(u:Tr p s g w1 s' g' w')(k:Nat)(y:w.heap.size<=k)(e:k<w1.heap.size):w'.heap[k]?=w1.heap[k]?:=u.o.same e (λi=>by have:=h.lt i;omega)
def fD(s:Pl)(x:B.V):Nat×B.V×Bool:=if x.1=0\/s.ck x.1=0 then(0,(0,0),false) else(s.ck x.1-1,(s.M x.1).getD 0 (0,0),true)
theorem F1(s:Pl)(g:eM)(x:B.V):sn x (kI s g).f s.M=.tuple #[ah ((fD s x).1:Int),vA (fD s x).2.1,.bool (fD s x).2.2]:=by
 unfold sn fD;by_cases e:x.1=0\/s.ck x.1=0
 .have i:x.1=0\/(kI s g).f.k x.1=0:=e;grind
 have i:¬(x.1=0\/(kI s g).f.k x.1=0):=e;rw[av e,av i];rfl
theorem wX(h:dZ p s g w)(hP:PW p){x:B.V}(o:B.qX s.kd.on p.n x):∀w1,w.grownBy w1 none->dC 162 #[P0 p.sb,vA x] w1 (.tuple #[ah ((fD s x).1:Int),vA (fD s x).2.1,.bool (fD s x).2.2]) λw'=>w1.grownBy w' none:=λw1 i=>by
 refine(yg p.sb p.pb p.eb p.n x s.kd (kI s g) s.M w1 (h.kept i).S hP.n2 o).mono ?_;grind[F1]
theorem dZ.Gf{p:dH}{s:Pl}{g:eM}{w:aa}(h:dZ p s g w)(hP:PW p):w.cell? (az p.eb 27)=some (P0 p.sb):=by
 rw[h.E.cell 27 af];show some (p.E0 27)=_;rw[hP.Gf]
theorem Be(hI:In s t):(s.T t).fr.length=de s t+1:=by grind[de,F.In.hi]
def mH(s:Pl)(t:Nat)(k:Nat×Nat×Nat×Nat):Pl:=if(fD s<|(bz s t).R k.2.2.1).2.2=true/\(s.T t).fr.length≠20 then s.push t ⟨(fD s<|(bz s t).R k.2.2.1).1,0,iz ((bz s t).R k.2.2.2) (fD s<|(bz s t).R k.2.2.1).2.1,k⟩ else s
theorem i13{a b c:Nat}(h:dZ p s g w)(hP:PW p)(hI:In s t)(hb:b<p.rg (bz s t).f)(Y:c<p.rg (bz s t).f)(hv:B.qX s.kd.on p.n ((bz s t).R b))(J:(s.T t).lf=none)(Z:(s.T t).fr.length<=1000)(G:(fD s<|(bz s t).R b).2.2=true->(fD s<|(bz s t).R b).1<p.nf):dC 104 #[mU p s g t (op,a,b,c)] w (ah<|sy (fD s<|(bz s t).R b).2.2 (s.T t).fr.length) λw'=>∃g',Tr p s g w (mH s t (op,a,b,c)) g' w':=by
 have hl:=Be hI;refine Nt op a b c (g.fb t<|de s t) (g.tb t) p.eb p.sb (s.T t).fr.length (g.ro 12 t).2 (fD s<|(bz s t).R b).1 ((bz s t).R b) ((bz s t).R c) (fD s<|(bz s t).R b).2.1 (fD s<|(bz s t).R b).2.2 (g.ro 12 t).1 (λw'=>∃g',Tr p s g w (mH s t (op,a,b,c)) g' w') w (In.b h hI op a b c _ _ hb) (wX h hP hv) (In.c h hI op a b c _ _ Y) ?_ ?_ (h.Gf hP) ?_
 .intro u H w1 i;have o:=Ga (k:=.func 149) (ka:=#[ee op a b c (g.fb t<|de s t) (g.tb t) p.eb]) (kc:=#[]) (op,a,b,c) ((bz s t).R c) (fD s<|(bz s t).R b).2.1 (h.kept i) hP hI.ht J (G u) Z (by
   unfold yx;grind)
  refine dq o ?_;rintro w' ⟨fb,rb,r,W⟩;refine⟨rfl,⟨g.push t (s.T t).fr.length fb rb r,?_⟩,W.ux h⟩;unfold mH;rw[bf ⟨u,H⟩];exact W.ahead i
 .intro w1 i y;refine⟨g,?_⟩;unfold mH;rw[av<|λe=>y.elim (λh=>by grind) e.2];exact(Tr.refl h).kept i
 exact(h.tk hI.ht).cell 1 af
theorem qW(s:Pl)(f:Nat)(u v:B.V)(ht:ft s t):(s.born f u v).T t=s.T t:=by
 have e:t≠s.nt+1:=gD ht.2
 unfold Pl.born;rw[nM _ e];show((s.more.push (s.nt+1) _).T t)=_;unfold Pl.push;rw[dU _ _ e];exact ot s e
theorem nN(s:Pl)(f:Nat)(u v:B.V):(s.born f u v).nt=s.nt+1:=iO _ _ _ _
def lR(p:dH)(s:Pl)(t:Nat)(k:Nat×Nat×Nat×Nat):Pl:=if(fD s<|(bz s t).R k.2.2.1).2.2=true/\s.lv.length≠p.mt then(s.born (fD s<|(bz s t).R k.2.2.1).1 ((bz s t).R k.2.2.2) (fD s<|(bz s t).R k.2.2.1).2.1).dM t (de s t) ((bz s t).set k.2.1 (0,((s.nt+1:Nat):Int))) else s
theorem i15{a b c:Nat}(h:dZ p s g w)(hP:PW p)(hI:In s t)(ha:a<p.rg (bz s t).f)(hb:b<p.rg (bz s t).f)(hc:c<p.rg (bz s t).f)(hv:B.qX s.kd.on p.n ((bz s t).R b))(a6:(fD s<|(bz s t).R b).2.2=true->(fD s<|(bz s t).R b).1<p.nf)(hW:LW s)(a4:s.lv.Nodup)(a9:∀u,u∈s.lv->ft s u)(ho:s.out.length=s.nt)(hn:s.nt+1<=500000000):dC 108 #[mU p s g t (op,a,b,c)] w (ah<|kT (fD s<|(bz s t).R b).2.2 s.lv.length p.mt) λw'=>∃g',Tr p s g w (lR p s t (op,a,b,c)) g' w':=by
 refine J5 op a b c (g.fb t<|de s t) (g.tb t) p.eb p.sb s.lv.length (g.ro 6 0).2 (fD s<|(bz s t).R b).1 p.mt (s.nt+1) ((bz s t).R b) ((bz s t).R c) (fD s<|(bz s t).R b).2.1 (fD s<|(bz s t).R b).2.2 (g.ro 6 0).1 (λw'=>∃g',Tr p s g w (lR p s t (op,a,b,c)) g' w')
  (λw'=>(fD s<|(bz s t).R b).2.2=true/\s.lv.length≠p.mt/\w.heap.size<w'.heap.size/\∃g',Tr p s g w (s.born (fD s<|(bz s t).R b).1 ((bz s t).R c) (fD s<|(bz s t).R b).2.1) g' w'/\(∀a i,ft s a->g'.fb a i=g.fb a i)/\¬eJ p (s.born (fD s<|(bz s t).R b).1 ((bz s t).R c) (fD s<|(bz s t).R b).2.1) g' w.heap.size) w (In.b h hI op a b c _ _ hb) (wX h hP hv) (In.c h hI op a b c _ _ hc) ?_ ?_ ?_ (h.Gf hP) ?_ ?_
 .intro H W w1 G aA;refine dq (Gz ((bz s t).R c) (fD s<|(bz s t).R b).2.1 (h.kept G) hP hW a4 a9 ho (a6 H) hn) ?_;rintro w' ⟨g',h2,J⟩;exact⟨rfl,⟨H,W,gD h2.o.size,g',h2.ahead G,J,λhm=>(h2.m _ hm).elim (λZ=>by have:=h.lt Z;omega)<|λZ=>by omega⟩,h2.ux h⟩
 .rintro w1 w2 ⟨H,W,a7,g',Z,J,a3⟩ Y;have a1:=qW s (fD s<|(bz s t).R b).1 ((bz s t).R c) (fD s<|(bz s t).R b).2.1 hI.ht;have a0:du (s.born (fD s<|(bz s t).R b).1 ((bz s t).R c) (fD s<|(bz s t).R b).2.1) t (de s t)=bz s t:=gK (by rw[a1]);have y:=sQ (t:=t) (i:=de s t) (a:=a) op b c (g.tb t) p.eb (0,((s.nt+1:Nat):Int)) (Z.r.kept Y) ⟨hI.ht.1,by rw[nN];have:=hI.ht.2;omega⟩ (eZ a1 hI.hi) ey;rw[J t _ hI.ht]at y;refine dq y λw' h3=>?_;rw[a0]at h3;refine⟨rfl,⟨g',?_⟩,?_⟩
  .unfold lR;rw[bf ⟨H,W⟩];exact(Z.kept Y).trans h3
  exact h3.o.same (dm a7 Y.size) a3
 .intro w1 G a5;refine⟨g,?_⟩;unfold lR;rw[av<|λe=>a5.elim (λh=>by grind) e.2];exact(Tr.refl h).kept G
 .exact h.E.cell 29 af
 rw[h.E.cell 3 af];show some (p.E0 3)=_;rw[hP.e3]
theorem i14{a b c:Nat}(h:dZ p s g w)(hP:PW p)(hI:In s t)(ha:a<p.rg (bz s t).f)(hW:LW s)(J:WW p s)(a1:(s.T t).lf=none)(Z:(s.T t).wh=none)(hm:(s.T t).fr.length<=1000)(Y:t∈s.lv)(G:s.lv.Nodup)(a0:∀u,u∈s.lv->ft s u)(ho:s.out.length=s.nt)(hk:s.kp.length<=1000000)(W:s.ev.length<=100000)(y:de s t≠0->(bz s t).bk.2.1<p.rg (du s t<|de s t-1).f):dC 163 #[mU p s g t (op,a,b,c),P0<|p.ac+18] w (ah 0) λw'=>∃g',Tr p s g w (s.back t<|(bz s t).R a) g' w':=by
 refine IW op a b c _ _ _ (p.ac+18) _ w (hP.box h.fix (j:=18) af rfl).1<|λw1 i=>?_;refine Og op a b c _ _ _ ((bz s t).R a) _ w1 (λw2 o=>In.a h hI op a b c _ _ ha w2<|ar i o)<|λw2 o=>?_
 refine dq (wV ((bz s t).R a) (h.kept<|ar i o) hW J hI.ht a1 Z (λe=>by have:=hI.hi;grind) hm Y G a0 ho hk W y) ?_;rintro w' ⟨g',h3⟩;exact⟨rfl,⟨g',h3.ahead<|ar i o⟩,h3.ux<|h.kept i⟩
theorem i16{a b c:Nat}(h:dZ p s g w)(hP:PW p)(hI:In s t)(H:LW s)(u:(s.T t).wh=none):dC 163 #[mU p s g t (op,a,b,c),P0<|p.ac+19] w (ah 0) λw'=>∃g',Tr p s g w (s.dX 2 0 t) g' w':=by
 refine IV op a b c _ _ _ (p.ac+19) _ w (hP.box h.fix (j:=19) af rfl).1<|λw1 i=>?_;refine JO op a b c _ _ _ _ w1 (h.kept i).E.lt<|λw2 o=>?_;refine dq (wS (x:=2) (y:=0) (h.kept<|ar i o) H (ag ⟨rfl,rfl⟩) hI.ht af ey) ?_;rintro w' ⟨r,J⟩;exact⟨rfl,_,J.ahead<|ar i o⟩
def jY(s:Pl)(t a:Nat):Int×Pl:=if((bz s t).R a).1=0 then(0,s.told 1 t ((bz s t).R a).2) else(1,s)
theorem i20{a b c:Nat}(h:dZ p s g w)(hP:PW p)(hI:In s t)(J:a<p.rg (bz s t).f)(y:s.ev.length<=100000):Calls prog 167 #[mU p s g t (op,a,b,c),P0<|p.ac+26,P0<|p.ac+27] w λe w'=>∃why:Int,e=.returned (ah why)/\why=(jY s t a).1/\∃g',Tr p s g w (jY s t a).2 g' w':=by
 refine uH (u:=98) (H:=115) af op a b c _ _ _ (p.ac+26) (p.ac+27) ((bz s t).R a) (λwhy w'=>why=(jY s t a).1/\∃g',Tr p s g w (jY s t a).2 g' w') w (hP.box h.fix (j:=26) af rfl).1 (hP.box h.fix (j:=27) af rfl).1 (In.a h hI op a b c _ _ J) (λu w1 i=>?_)<|λu w1 i=>?_
 .refine(Nl op a b c _ _ _ ((bz s t).R a).2 (λw'=>∃g',Tr p s g w (jY s t a).2 g' w') w1<|λw2 o=>?_).mono ?_
  .refine dq (Ek 1 ((bz s t).R a).2 (h.kept<|ar i o) hI.ht y) ?_;rintro w' ⟨r,G⟩;refine⟨rfl,g.at 9 0 r,?_⟩;unfold jY;rw[bf u];grind[ar,F.Tr.ahead]
  rintro e w' ⟨rfl,G⟩;exact⟨0,rfl,by unfold jY;grind,G⟩
 unfold jY;rw[av u];exact⟨rfl,g,(Tr.refl h).kept i⟩
def i22{a b c:Nat}(h:dZ p s g w)(hP:PW p)(hI:In s t)(y:a<p.rg (bz s t).f):dC 163 #[mU p s g t (op,a,b,c),P0<|p.ac+31] w (ah 0) λw'=>Tr p s g w (qS s t a s.clk) g w':=by
 have i:=hP.box h.fix (j:=31) af rfl;have u:=hP.box h.fix (j:=30) af rfl;refine dq (Af op a b c _ _ _ _ _ _ _ _ (p.ac+31) (p.ac+30) _ _ _ y w (In.fr h hI) i.1 u.1 (ch i.2) (ch u.2)<|λw1 o=>Il op a b c _ _ p.eb s.clk w1 ((h.kept o).E.cell 28 af) (h.kept o).E.lt) ?_;rintro w' ⟨k1,k2⟩;exact⟨rfl,In.set h hI k1 k2⟩
def ie(s:Pl)(z:Int):Option Nat:=s.lv.find?<|λu=>(u:Int) == z
theorem find_congr{q r:Nat->Bool}:∀(l:List Nat),(∀u,u∈l->q u=r u)->l.find? q=l.find? r
 | [],_=>rfl
 | u :: l,h=>by
  rw[List.find?_cons,List.find?_cons,h u eG,find_congr l<|λv e=>h v<|by simp[e]]
theorem jV{z:Int}(h:ie s z=some u):u∈s.lv/\(u:Int)=z:=by
 refine⟨List.mem_of_find?_eq_some h,?_⟩;have:=List.find?_some h;grind
theorem GG(h:dZ p s g w)(H:∀u,u∈s.lv->ft s u)(a4:s.lv.length<=1000000000)(z:Int):dC 170 #[P0 p.eb,ah z] w (pP<|(ie s z).map g.tb) λw'=>w.grownBy w' none:=by
 obtain⟨Y,Z⟩:∃Y:Nat->Int,∀u,ft s u->Y (g.tb u)=(u:Int):=by
  classical
  refine⟨λb=>if J:∃u,ft s u/\g.tb u=b then(J.choose:Int) else 0,λu G=>?_⟩;have J:∃u',ft s u'/\g.tb u'=g.tb u:=⟨u,G,rfl⟩;show(if J:∃u',ft s u'/\g.tb u'=g.tb u then(J.choose:Int) else 0)=(u:Int);rw[dif_pos J,h.mT J.choose_spec.1 G J.choose_spec.2]
 have hr:=h.row (x:=6) (y:=0) (by grind[fi])<|ji af;have a2:eS s 6 0=s.lv.length:=rfl;obtain⟨o,W⟩:∃o,s.lv≠[]->(g.ro 6 0).1=some (az o 0)/\o<w.heap.size/\∀j x,(s.lv.map g.tb)[j]?=some x->dW w o j=some (P0 x):=by
  by_cases e:s.lv=[]
  .simp_all
  let⟨o,lc,he⟩:=ef hr ey;rw[he,a2]at hr;have a3:w.ownsRow 0 155 1 (dD o s.lv.length lc) s.lv.length ((s.lv.map g.tb).map P0):=hr;unfold sl at he;injection he with a1 _ _;exact⟨o,λ_=>⟨a1,(dR a3 o rfl).2.1,λj x i=>(ik a3).2.2.2.2.2 j (P0 x) ey⟩⟩
 have a0:∀{j:Nat} {x:Nat},(s.lv.map g.tb)[j]?=some x->s.lv≠[]:=λi e=>by grind
 refine(LH p.eb o (g.ro 6 0).2 s.lv.length (g.ro 6 0).1 z Y (s.lv.map g.tb) w (h.E.cell 29 af) h.E.lt ey a4 (λj x i=>⟨(W<|a0 i).1,(W<|a0 i).2.2 j x i⟩) (λe=>(W<|λe'=>e ey).2.1)<|λx i=>?_).mono ?_
 .obtain⟨u,G,rfl⟩:=eX.1 i;have hT:=h.tk<|H u G;refine⟨?_,hT.lt⟩;rw[hT.cell 0 af,Z u<|H u G];rfl
 grind[ie,find_congr,tu,pP]
def wT(s:Pl)(z:Int):Bool:=decide (1<=z/\z<=(s.nt:Int))
def BP(h:dZ p s g w)(i:s.out.length=s.nt)(z:Int):dC 169 #[P0 p.eb,ah z] w (.bool<|wT s z) λw'=>w.grownBy w' none:=by
 have:=Iz p.eb s.out.length (g.ro 7 0).2 (g.ro 7 0).1 z w<|h.E.cell 30 af;rw[i]at this;exact this
theorem FI(e:∀u,u∈s.lv->ft s u){z:Int}(h:ie s z=some u):wT s z=true:=by
 have i:=jV h;grind[wT,ft,decide_eq_true]
def iu(s:Pl)(t a:Nat):Int×Pl:=if((bz s t).R a).1=0 then(if wT s ((bz s t).R a).2=true then(0,match ie s ((bz s t).R a).2 with|some u=>s.leave u (0,-100) 4 0|none=>s) else(6,s)) else(1,s)
theorem i19{a b c:Nat}(h:dZ p s g w)(hP:PW p)(hI:In s t)(ha:a<p.rg (bz s t).f)(hW:LW s)(W:WW p s)(J:s.lv.Nodup)(y:∀u,u∈s.lv->ft s u)(ho:s.out.length=s.nt)(hk:s.kp.length<=1000000)(Y:s.ev.length<=100000):Calls prog 167 #[mU p s g t (op,a,b,c),P0<|p.ac+24,P0<|p.ac+25] w λe w'=>∃why:Int,e=.returned (ah why)/\why=(iu s t a).1/\∃g',Tr p s g w (iu s t a).2 g' w':=by
 refine uH (u:=98) (H:=114) af op a b c _ _ _ (p.ac+24) (p.ac+25) ((bz s t).R a) (λwhy w'=>why=(iu s t a).1/\∃g',Tr p s g w (iu s t a).2 g' w') w (hP.box h.fix (j:=24) af rfl).1 (hP.box h.fix (j:=25) af rfl).1 (In.a h hI op a b c _ _ ha) (λh0 w1 o=>?_)<|λh0 w1 o=>?_
 .generalize hz:((bz s t).R a).2=z;have hS:iu s t a=(if wT s z=true then(0,match ie s z with|some u=>s.leave u (0,-100) 4 0|none=>s) else(6,s)):=by unfold iu;rw[bf h0,hz]
  refine(I2 op a b c _ (g.tb t) p.eb z (wT s z) ((ie s z).map g.tb) (λw'=>∃g',Tr p s g w (iu s t a).2 g' w') w1 (λw2 i=>BP (h.kept<|ar o i) ho z) ?_ ?_ ?_).mono ?_
  .exact λw2 i=>GG (h.kept<|ar o i) y (by have:=gR s.nt s.lv J y;have:=hW.d;omega) z
  .intro w2 x i H
   cases G:ie s z with
   |none=>grind
   |some u=>
    rw[G]at H;injection H with H;subst H;have hm:=jV G;have hn:=FI y G;refine dq (Gd (h.kept<|ar o i) hW W (y u hm.1) hm.1 J y ho hk Y) ?_;rintro w' ⟨g',Z⟩;refine⟨rfl,g',?_⟩;rw[hS,bf hn,G];grind[ar,F.Tr.ahead]
  .intro w2 i a1;refine⟨g,?_⟩;rw[hS];by_cases hn:wT s z=true
   .rw[bf hn];have G:ie s z=none:=by
     rcases a1 with e|e
     .grind
     cases G:ie s z with
     |none=>rfl
     |some u=>grind
    rw[G];exact(Tr.refl h).kept<|ar o i
   rw[av hn];exact(Tr.refl h).kept<|ar o i
  grind
 unfold iu;rw[av h0];exact⟨rfl,g,(Tr.refl h).kept o⟩
def jd(s:Pl)(t:Nat)(k:Nat×Nat×Nat×Nat):Int×Pl:=
 if((bz s t).R k.2.2.1).1=0 then
  (if wT s ((bz s t).R k.2.2.1).2=true/\((bz s t).R k.2.2.1).2≠(t:Int) then(0,match ie s ((bz s t).R k.2.2.1).2 with|some u=>s.wait 5 u t k|none=>s.dM t (de s t) ((bz s t).set k.2.1<|s.out.getD (((bz s t).R k.2.2.1).2.toNat-1) (0,0))) else(6,s)) else(1,s)
theorem i18{a b c:Nat}(h:dZ p s g w)(hP:PW p)(hI:In s t)(ha:a<p.rg (bz s t).f)(hb:b<p.rg (bz s t).f)(hW:LW s)(a7:(s.T t).wh=none)(a8:s.lv.Nodup)(Z:∀u,u∈s.lv->ft s u)(ho:s.out.length=s.nt):Calls prog 167 #[mU p s g t (op,a,b,c),P0<|p.ac+22,P0<|p.ac+23] w λe w'=>∃why:Int,e=.returned (ah why)/\why=(jd s t (op,a,b,c)).1/\∃g',Tr p s g w (jd s t (op,a,b,c)).2 g' w':=by
 have aC:=hW.d;have aB:=dQ hI.ht.1 hI.ht.2;refine uH (u:=86) (H:=113) af op a b c _ _ _ (p.ac+22) (p.ac+23) ((bz s t).R b) (λwhy w'=>why=(jd s t (op,a,b,c)).1/\∃g',Tr p s g w (jd s t (op,a,b,c)).2 g' w') w (hP.box h.fix (j:=22) af rfl).1 (hP.box h.fix (j:=23) af rfl).1 (In.b h hI op a b c _ _ hb) (λh0 w1 J=>?_)<|λh0 w1 J=>?_
 .generalize hz:((bz s t).R b).2=z;have hS:jd s t (op,a,b,c)=(if wT s z=true/\z≠(t:Int) then(0,match ie s z with|some u=>s.wait 5 u t (op,a,b,c)|none=>s.dM t (de s t) ((bz s t).set a<|s.out.getD (z.toNat-1) (0,0))) else(6,s)):=by unfold jd;rw[bf h0,hz]
  have G:=h.kept J;have h7:=G.row (x:=7) (y:=0) (by grind[fi])<|ji af;have a3:eS s 7 0=s.out.length:=rfl;let⟨ob,co,he⟩:=ef h7 af;rw[he,a3]at h7;have a4:w1.ownsRow 0 149 2 (dD ob s.out.length co) s.out.length (ij s.out):=h7;have a0:wT s z=true->1<=z/\z<=(s.nt:Int):=λe=>eQ e;have hN:¬(wT s z=true/\z≠(t:Int))->(jd s t (op,a,b,c)).2=s:=λhn=>by grind
  refine(LD op a b c (g.fb t<|de s t) (g.tb t) p.eb t s.out.length co ob (z.toNat-1) z (wT s z) ((ie s z).map g.tb) (s.out.getD (z.toNat-1) (0,0)) (λw'=>∃g',Tr p s g w (jd s t (op,a,b,c)).2 g' w') w1 (λw2 o=>BP (G.kept o) ho z) (λw2 o=>GG (G.kept o) Z (by have:=gR s.nt s.lv a8 Z;omega) z) ?_ ?_ ?_ ((G.tk hI.ht).cell 0 af) (G.tk hI.ht).lt G.E.lt ?_ ?_ af ?_ ((dR a4 ob rfl).2.1) ?_).mono ?_
  .intro w2 x o H W
   cases Y:ie s z with
   |none=>grind
   |some u=>
    rw[Y]at H;injection H with H;subst H;have hm:=jV Y;refine dq (Jj (x:=5) (y:=u) (t:=t) (op,a,b,c) (G.kept o) hW hI.ht (ak<|ak<|ak ⟨rfl,Z u hm.1⟩) (λe=>(λe=>W.2 af) e.2) a7) ?_;rintro w' ⟨g',h3⟩;refine⟨rfl,g',?_⟩;rw[hS,bf ⟨W.1,W.2⟩,Y];grind[ar,F.Tr.ahead]
  .intro w2 o H W;have Y:ie s z=none:=by
    cases Y:ie s z with
    |none=>rfl
    |some u=>grind
   refine dq (sQ (t:=t) (i:=de s t) (a:=a) op b c (g.tb t) p.eb (s.out.getD (z.toNat-1) (0,0)) (G.kept o) hI.ht hI.hi ha) λw' h3=>?_;refine⟨rfl,g,?_⟩;rw[hS,bf ⟨W.1,W.2⟩,Y];grind[ar,F.Tr.ahead]
  .intro w2 o aA;refine⟨g,?_⟩;rw[hN<|λe=>aA.elim (λh=>by grind)<|λh=>e.2 h];exact(Tr.refl h).kept<|ar J o
  .intro x H
   cases Y:ie s z with
   |none=>grind
   |some u=>
    rw[Y]at H;injection H with H;subst H;exact(G.tk<|Z u (jV Y).1).lt
  .intro e;have:=a0 e;exact⟨af,lD ho⟩
  .rw[G.E.cell 30 af,<-a3,<-he];rfl
  .intro e;have:=a0 e
   exact((rY a4).2.2.2.2.2) (z.toNat-1) _ (by rw[cw,bw<|lD ho];rfl)
  rintro e w' ⟨rfl,h3⟩;refine⟨_,rfl,?_,h3⟩;rw[hS];unfold JG;by_cases hn:wT s z=true/\z≠(t:Int)
  .rw[bf hn,bf hn]
  rw[av hn,av hn]
 unfold jd;rw[av h0];exact⟨rfl,g,(Tr.refl h).kept J⟩
def Pl.fR(s:Pl)(k:Nat)(l:List Nat):Pl:={s with fA:=λi=>if i=k then l else s.fA i}
theorem yX(k:Nat)(l:List Nat)(a b:Nat)(h:¬(a=10/\b=k)):eS (s.fR k l) a b=eS s a b/\gC (s.fR k l) g a b=gC s g a b:=by
 by_cases e:a=10
 .have eb:b≠k:=λeb=>h ⟨e,eb⟩;subst e;have i:(s.fR k l).fA b=s.fA b:=av eb;constructor
  .show((s.fR k l).fA b).length=_;rw[i];rfl
  show iR ((s.fR k l).fA b)=_;rw[i];rfl
 exact⟨by unfold eS Pl.fR;grind,by unfold gC Pl.fR;grind⟩
theorem Mn{x:Nat}{bs:List Nat}(h:dZ p s g w)(hk:k<4)(hb:s.fA k=x :: bs)(hn:bs.length<=1000):dC 174 #[Pt p.eb<|34+k*2] w (.tuple #[dz x,.bool true]) λw'=>Tr p s g w (s.fR k bs) g w':=by
 have hv:ig s 10 k 0=true:=D8 af hk;have Y:=h.row (x:=10) (y:=k) (by grind[fi]) hv;have Z:eS s 10 k=bs.length+1:=by show(s.fA k).length=_;rw[hb];rfl
 have hc:gC s g 10 k=iR (x :: bs):=by show iR (s.fA k)=_;rw[hb]
 let⟨gb,cc,he⟩:=ef Y af;have o:g.ro 10 k=(some<|az gb 0,cc):=by
  unfold sl at he;injection he with a b c;exact gh a c
 have hI:mr (34+k*2)=(10,k)/\29<=34+k*2/\34+k*2<44/\34+k*2≠42:=by
  have:k=0\/k=1\/k=2\/k=3:=by omega
  rcases this with rfl|rfl|rfl|rfl<;>decide
 have hE:iQ p s g (34+k*2)=dD gb (bs.length+1) cc:=by
  unfold iQ;rw[eK,eK,eK,hI.1];show sl s g 10 k=_;rw[he,Z]
 rw[he,Z,hc]at Y;have u:w.ownsRow 0 5 1 (dD gb (bs.length+1) cc) (bs.length+1) (iR<|x :: bs):=Y;refine dq (CA p.eb (34+k*2) gb cc 44 x 144 bs (iQ p s g) w h.E af hE u hn<|eU u h.E eo gb rfl) ?_;rintro w' ⟨k1,k2,k3⟩;have H:(s.fR k bs).fA k=bs:=bf rfl;have J:eS (s.fR k bs) 10 k=bs.length:=by show((s.fR k bs).fA k).length=_;rw[H]
 have W:gC (s.fR k bs) g 10 k=iR bs:=by show iR ((s.fR k bs).fA k)=_;rw[H]
 have G:=h.vE (s':=s.fR k bs) (r:=g.ro 10 k) (j0:=34+k*2) (w':=w') af hv hI rfl rfl rfl rfl rfl rfl rfl (λa b _ _ e=>yX k bs a b e) ey (by rw[J,W,o];exact k2) (k3.mono<|λi hi _=>hi.imp id (λe=>by rw[o,e];rfl)) (λi hi=>ag hi);grind[Cg]
def C4{l:List Nat}{i:Nat}(h:eJ p (s.fR k l) g i):eJ p s g i:=by
 obtain⟨x,y,z,e⟩:=h;refine⟨x,y,z,?_⟩;by_cases o:ig s x y z=true
 .rw[iq (show ig (s.fR k l) x y z=true from o)]at e;rw[iq o];by_cases u:fi x
  .rw[im u]at e⊢;exact e
  have H:=sI o;have G:x=0\/x=1\/x=11\/x=13\/x=14\/x=15\/x=16\/x=17\/x=18:=by unfold fi at u;omega
  (repeat' rcases G with rfl|G)<;>exact e
 rw[wg (show ¬ig (s.fR k l) x y z=true from o)]at e;exact e.elim
def kM(s:Pl)(t:Nat)(k:Nat×Nat×Nat×Nat):Int×Pl:=
 if((bz s t).R k.2.2.1).1=0 then
  (if 0<=((bz s t).R k.2.2.1).2/\((bz s t).R k.2.2.1).2<4 then(0,match s.fA ((bz s t).R k.2.2.1).2.toNat with|x :: bs=>(s.fR ((bz s t).R k.2.2.1).2.toNat bs).dM t (de s t) ((bz s t).set k.2.1 (0,(x:Int)))|[]=>s.wait 4 ((bz s t).R k.2.2.1).2.toNat t k) else(8,s)) else(1,s)
theorem i21{a b c:Nat}(h:dZ p s g w)(hP:PW p)(hI:In s t)(ha:a<p.rg (bz s t).f)(hb:b<p.rg (bz s t).f)(hW:LW s)(a1:(s.T t).wh=none)(Y:∀k,(s.fA k).length<=1000/\∀x,x∈s.fA k->x<256):Calls prog 167 #[mU p s g t (op,a,b,c),P0<|p.ac+28,P0<|p.ac+29] w λe w'=>∃why:Int,e=.returned (ah why)/\why=(kM s t (op,a,b,c)).1/\∃g',Tr p s g w (kM s t (op,a,b,c)).2 g' w':=by
 refine uH (u:=86) (H:=116) af op a b c _ _ _ (p.ac+28) (p.ac+29) ((bz s t).R b) (λwhy w'=>why=(kM s t (op,a,b,c)).1/\∃g',Tr p s g w (kM s t (op,a,b,c)).2 g' w') w (hP.box h.fix (j:=28) af rfl).1 (hP.box h.fix (j:=29) af rfl).1 (In.b h hI op a b c _ _ hb) (λh0 w1 u=>?_)<|λh0 w1 u=>?_
 .generalize hz:((bz s t).R b).2=z;have hS:kM s t (op,a,b,c)=(if 0<=z/\z<4 then(0,match s.fA z.toNat with|x :: bs=>(s.fR z.toNat bs).dM t (de s t) ((bz s t).set a (0,(x:Int)))|[]=>s.wait 4 z.toNat t (op,a,b,c)) else(8,s)):=by unfold kM;rw[bf h0,hz]
  by_cases hk:0<=z/\z<4
  .obtain⟨k,rfl⟩:∃k:Nat,z=(k:Int):=⟨z.toNat,af⟩;have J:k<4:=af
   rw[bf hk,lC]at hS
   cases hbs:s.fA k with
   |cons x bs=>
    rw[hbs]at hS;have hl:=(Y k).1;rw[hbs]at hl;refine(CX op a b c (g.fb t<|de s t) (g.tb t) p.eb (34+k*2) x (k:Int) ((Y k).2 x ey) (λw'=>Tr p s g w (s.fR k bs) g w') (λw'=>∃g',Tr p s g w (kM s t (op,a,b,c)).2 g' w') w1 (λw2 _=>qN p.eb k w2 J) (λw2 G=>?_)<|λw2 w3 hR W=>?_).mono ?_
    .refine dq (Mn (h.kept<|ar u G) J hbs ey) λw' H=>?_;exact⟨rfl,H.ahead<|ar u G,H.ux<|h.kept u⟩
    .refine dq (sQ (s:=s.fR k bs) (t:=t) (i:=de s t) (a:=a) op b c (g.tb t) p.eb (0,(x:Int)) (hR.r.kept W) hI.ht hI.hi ha) λw' H=>?_;refine⟨rfl,⟨g,by rw[hS];exact(hR.kept W).trans H⟩,λi a3 a0=>H.o.same a0<|λhm=>?_⟩;have:=(h.kept u).lt<|C4 hm;omega
    grind
   |nil=>
    rw[hbs]at hS;have ho:Pt p.eb (34+k*2+1)=Pt (qp p g 4 k) (sk 4 k):=by show Pt p.eb (34+k*2+1)=Pt p.eb (35+2*k);rw[show 34+k*2+1=35+2*k by omega]
    refine(CW op a b c (g.fb t<|de s t) (g.tb t) p.eb (34+k*2) (k:Int) (λw'=>∃g',Tr p s g w (kM s t (op,a,b,c)).2 g' w') w1 (h.kept u).E.lt (λw2 _=>qN p.eb k w2 J) (λw2 G=>?_)<|λw2 G=>?_).mono ?_
    .have hE:=(h.kept<|ar u G).E.cell (34+k*2) af;have a2:mr (34+k*2)=(10,k):=by
      have:k=0\/k=1\/k=2\/k=3:=by omega
      rcases this with rfl|rfl|rfl|rfl<;>decide
     have Z:iQ p s g (34+k*2)=.slice (g.ro 10 k).1 0 (g.ro 10 k).2:=by
      unfold iQ;rw[eK,eK,eK,a2];show Value.slice _ (s.fA k).length _=_;rw[hbs];rfl
     grind[CB]
    .rw[ho];refine dq (Jj (x:=4) (y:=k) (t:=t) (op,a,b,c) (h.kept<|ar u G) hW hI.ht (ak<|ak<|ag ⟨rfl,J⟩) af a1) ?_;rintro w' ⟨g',H⟩;exact⟨rfl,g',by grind[ar,F.Tr.ahead]⟩
    grind
  rw[av hk]at hS;refine dq (H7 op a b c (g.fb t<|de s t) (g.tb t) p.eb z w1<|λw2 _=>wI p.eb z w2 af) λw' hg=>?_;exact⟨8,rfl,by rw[hS],g,by rw[hS];exact(Tr.refl h).kept<|ar u hg⟩
 unfold kM;rw[av h0];exact⟨rfl,g,(Tr.refl h).kept u⟩
